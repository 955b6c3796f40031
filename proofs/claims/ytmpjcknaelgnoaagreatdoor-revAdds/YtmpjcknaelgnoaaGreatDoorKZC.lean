import Derived.Test.YtmpjcknaelgnoaaGreatDoorKU3
set_option maxHeartbeats 1000000
set_option maxRecDepth 20000
namespace Go.Proofs.YtmpjcknaelgnoaaGreatDoor
open Go.RowKit
def fmaW (d V:Int):Nat:=if V=0 then 0 else mdW (decide (V<0)) (finU 53 2098 9218868437227405311 9218868437227405312 (dirN (decide (V<0)) d) (rV (dirN (decide (V<0)) d) 53 V.natAbs 1 (-1074)))
theorem mul_fma (d V:Int) (ng:Bool) (P:Nat) (hP:V.natAbs=P) (hng:V≠0→ng=decide (V<0)):mulW d ng P=fmaW d V:=by
 unfold mulW fmaW
 by_cases c:V=0
 ·rw [if_pos c,if_pos (by rw [← hP,c];rfl)]
 ·rw [if_neg c,if_neg (by omega),hng c,hP]
theorem sum_fma (d V W:Int) (K:Nat) (hK:K=1074) (h:W=V*((2 ^ K:Nat):Int)):sumW d V=fmaW d W:=by
 have hp:(0:Int)<((2 ^ K:Nat):Int):=by have:=Nat.two_pow_pos K;omega
 obtain ⟨g1,g2⟩:=sgn_mul V _ hp
 rw [← h] at g1 g2
 rw [sum_mul d V (decide (V<0)) W.natAbs K hK (by rw [h,Int.natAbs_mul,Int.natAbs_natCast]) (fun _=>rfl)]
 refine mul_fma d W _ _ rfl (fun _=>?_)
 rw [decide_eq_decide];exact g1
theorem of_fma (d:Int) (ng:Bool) (c:Nat) (low V:Int) (h1:-2148≤low) (h2:low≤8192) (hb:blen c≤524288) (hV:V=if ng then -((c*2 ^ (low+2148).toNat:Nat):Int) else ((c*2 ^ (low+2148).toNat:Nat):Int)):ofW d ng c low=fmaW d V:=by
 obtain ⟨k,hk⟩:∃ k,k=(low+2148).toNat:=⟨_,rfl⟩
 rw [← hk] at hV
 rw [of_mul d ng c low (c*2 ^ k) h1 h2 hb (by rw [hk])]
 obtain ⟨C,hC⟩:∃ C,C=c*2 ^ k:=⟨_,rfl⟩
 rw [← hC] at hV ⊢
 refine mul_fma d V ng _ ?_ ?_
 ·rw [hV];cases ng <;> simp
 ·intro hv
  rw [hV] at hv ⊢
  cases ng
  ·simp
  ·simp at hv ⊢;omega
theorem fma_signs (s t:Bool) (a b:Nat) (ea eb low:Int) (ea1:-2148≤ea) (eb1:-2148≤eb) (hlow:low=min ea eb) (X Y:Int) (hX:X=if s then -((a*2 ^ (ea+2148).toNat:Nat):Int) else ((a*2 ^ (ea+2148).toNat:Nat):Int)) (hY:Y=if t then -((b*2 ^ (eb+2148).toNat:Nat):Int) else ((b*2 ^ (eb+2148).toNat:Nat):Int)) (A' B':Nat) (hA:A'=a*2 ^ (ea - low).toNat) (hB:B'=b*2 ^ (eb - low).toNat) :
  (s=t→X+Y=if s then -(((A'+B')*2 ^ (low+2148).toNat:Nat):Int) else (((A'+B')*2 ^ (low+2148).toNat:Nat):Int))∧(s≠t→B'≤A'→X+Y=if s then -(((A' - B')*2 ^ (low+2148).toNat:Nat):Int) else (((A' - B')*2 ^ (low+2148).toNat:Nat):Int))∧(s≠t→A'<B'→X+Y=if t then -(((B' - A')*2 ^ (low+2148).toNat:Nat):Int) else (((B' - A')*2 ^ (low+2148).toNat:Nat):Int)):=by
 obtain ⟨k,hk⟩:∃ k,k=(low+2148).toNat:=⟨_,rfl⟩
 have e1:a*2 ^ (ea+2148).toNat=A'*2 ^ k:=by rw [hA,Nat.mul_assoc,← Nat.pow_add];congr 2;omega
 have e2:b*2 ^ (eb+2148).toNat=B'*2 ^ k:=by rw [hB,Nat.mul_assoc,← Nat.pow_add];congr 2;omega
 rw [e1] at hX
 rw [e2] at hY
 rw [← hk,Nat.add_mul,Nat.sub_mul,Nat.sub_mul]
 have g1:=fun h2:B'≤A'=>Nat.mul_le_mul_right (2 ^ k) h2
 have g2:=fun h2:A'<B'=>Nat.mul_le_mul_right (2 ^ k) (Nat.le_of_lt h2)
 generalize A'*2 ^ k=a2 at hX g1 g2 ⊢
 generalize B'*2 ^ k=b2 at hY g1 g2 ⊢
 refine ⟨fun h=>?_,fun h h2=>?_,fun h h2=>?_⟩
 ·rw [hX,hY,← h];cases s
  ·rw [if_neg (by simp),if_neg (by simp),if_neg (by simp)];omega
  ·rw [if_pos rfl,if_pos rfl,if_pos rfl];omega
 ·have g:=g1 h2
  rw [hX,hY]
  cases s <;> cases t <;> simp only [if_true,if_false,Bool.false_eq_true,ne_eq,not_true_eq_false,not_false_eq_true] at h ⊢ <;> omega
 ·have g:=g2 h2
  rw [hX,hY]
  cases s <;> cases t <;> simp only [if_true,if_false,Bool.false_eq_true,ne_eq,not_true_eq_false,not_false_eq_true] at h ⊢ <;> omega
theorem plusAnyW_ (a b:Nat) (ea eb:Int) (la:blen a≤106) (lb:blen b≤106) (ea1:-2148≤ea) (ea2:ea≤4096) (eb1:-2148≤eb) (eb2:eb≤4096) (s t:Bool) (X Y:Int) (hX:X=if s then -((a*2 ^ (ea+2148).toNat:Nat):Int) else ((a*2 ^ (ea+2148).toNat:Nat):Int)) (hY:Y=if t then -((b*2 ^ (eb+2148).toNat:Nat):Int) else ((b*2 ^ (eb+2148).toNat:Nat):Int)) :
  ∃ (ng:Bool) (c:Nat) (low:Int),(∀ d:Int,ofW d ng c low=fmaW d (X+Y))∧len32 c≤16384∧∀ (va vb:Value) (w:World),Ls w va (dig a)→Ls w vb (dig b)→Calls Tryz.prog 179 #[.agg #[.bool s,va,.int .i64 ea],.agg #[.bool t,vb,.int .i64 eb]] w fun e w'=>∃ v,e=.returned (.agg #[.bool ng,v,.int .i64 low])∧Ls w' v (dig c)∧Kp w w':=by
 obtain ⟨low,hlow⟩:∃ low,low=min ea eb:=⟨_,rfl⟩
 obtain ⟨A',hA⟩:∃ A',A'=a*2 ^ (ea - low).toNat:=⟨_,rfl⟩
 obtain ⟨B',hB⟩:∃ B',B'=b*2 ^ (eb - low).toNat:=⟨_,rfl⟩
 obtain ⟨S1,S2,S3⟩:=fma_signs s t a b ea eb low ea1 eb1 hlow X Y hX hY A' B' hA hB
 obtain ⟨X4,hX4⟩:∃ X4:Nat,X4=8192:=⟨_,rfl⟩
 have bnd:∀ (u:Nat) (e:Int) (U:Nat),blen u≤106→e≤8000→U=u*2 ^ e.toNat→blen U≤X4:=fun u e U h1 h2 h3=>by
  rw [h3,blen_le_iff]
  have h4:2 ^ 106*2 ^ e.toNat≤2 ^ X4:=by rw [← Nat.pow_add];exact Nat.pow_le_pow_right (by omega) (by omega)
  have h5:u*2 ^ e.toNat<2 ^ 106*2 ^ e.toNat:=Nat.mul_lt_mul_of_pos_right ((blen_le_iff u 106).1 h1) (Nat.two_pow_pos _)
  exact Nat.lt_of_lt_of_le h5 h4
 have bA:=bnd a (ea - low) A' la (by omega) hA
 have bB:=bnd b (eb - low) B' lb (by omega) hB
 have hsm:∀ c:Nat,c≤A'+B'→blen c≤X4+1:=fun c hc=>by
  have h1:=(blen_le_iff A' X4).1 bA
  have h2:=(blen_le_iff B' X4).1 bB
  rw [blen_le_iff,Nat.pow_succ];omega
 have fin:∀ (ng:Bool) (c:Nat),c≤A'+B'→(X+Y=if ng then -((c*2 ^ (low+2148).toNat:Nat):Int) else ((c*2 ^ (low+2148).toNat:Nat):Int))→(∀ d:Int,ofW d ng c low=fmaW d (X+Y))∧len32 c≤16384:=fun ng c hc hv=>by
  have h1:=hsm c hc
  exact ⟨fun d=>of_fma d ng c low _ (by omega) (by omega) (by omega) hv,dlen c 16384 (by omega)⟩
 by_cases c1:s=t
 ·obtain ⟨f1,f2⟩:=fin s (A'+B') (Nat.le_refl _) (S1 c1)
  refine ⟨s,A'+B',low,f1,f2, ?_⟩
  rintro va vb w ⟨pa,ca,rfl,aa,l1⟩ ⟨pb,cb,rfl,ab,l2⟩
  exact plusEqW_ s t a b ea eb low pa pb ca cb w aa l1 ab l2 la lb ea1 ea2 eb1 eb2 hlow A' B' hA hB c1
 ·by_cases c2:B'≤A'
  ·obtain ⟨f1,f2⟩:=fin s (A' - B') (by omega) (S2 c1 c2)
   refine ⟨s,A' - B',low,f1,f2, ?_⟩
   rintro va vb w ⟨pa,ca,rfl,aa,l1⟩ ⟨pb,cb,rfl,ab,l2⟩
   exact plusGeW_ s t a b ea eb low pa pb ca cb w aa l1 ab l2 la lb ea1 ea2 eb1 eb2 hlow A' B' hA hB c1 c2
  ·obtain ⟨f1,f2⟩:=fin t (B' - A') (by omega) (S3 c1 (by omega))
   refine ⟨t,B' - A',low,f1,f2, ?_⟩
   rintro va vb w ⟨pa,ca,rfl,aa,l1⟩ ⟨pb,cb,rfl,ab,l2⟩
   exact plusLtW_ s t a b ea eb low pa pb ca cb w aa l1 ab l2 la lb ea1 ea2 eb1 eb2 hlow A' B' hA hB c1 (by omega)
theorem pfmaQ_ (d:Int) (n n' nz:Bool) (m m' mz:Nat) (c1:(2580562586483294208≤m∧m≤6633802251116740608)) (c2:(2580562586483294208≤m'∧m'≤6633802251116740608)) (cz:mz≤9110782046170513408) (L:Nat) (hL:L=1074) (w:World) (hT:Tab w) (hQ:Fq.Tab w) (hd1:-9223372036854775808≤d) (hd2:d<9223372036854775808) :
  Calls Tryz.prog 161 #[.int .i64 d,.float .f64 (Fq.wD n m),.float .f64 (Fq.wD n' m'),.float .f64 (Fq.wD nz mz)] w fun e w'=>e=.returned (.float .f64 (fmaW d (Iv n m*Iv n' m'+Iv nz mz*((2 ^ L:Nat):Int))))∧Kp w w':=by
 have h1:=mild_ n m (by omega) w
 have h2:=mild_ n' m' (by omega) w
 have h3:=tame_ nz mz (by omega) w
 rw [decide_eq_true c1] at h1
 rw [decide_eq_true c2] at h2
 rw [decide_eq_true cz] at h3
 obtain ⟨V,hn,tn,hr,tr,zV,r1,r2,h4,hsum⟩:=fused_ n n' nz m m' mz c1 c2 cz L hL
 have h5:=fun w1 (k:Kp w w1)=>paddF_ d hn tn hr tr r1 r2 w1 (hT.grown k) (Fq.Tab.grown hQ k) hd1 hd2
 rw [hsum d,sum_fma d V _ L hL rfl,zV] at h5
 have h4w:=h4 w
 obtain ⟨R,hR⟩:∃ R,R=fmaW d (Iv n m*Iv n' m'+Iv nz mz*((2 ^ L:Nat):Int)):=⟨_,rfl⟩
 obtain ⟨X,hX⟩:∃ X,X=Fq.wD n m:=⟨_,rfl⟩
 obtain ⟨Y,hY⟩:∃ Y,Y=Fq.wD n' m':=⟨_,rfl⟩
 obtain ⟨Z,hZ⟩:∃ Z,Z=Fq.wD nz mz:=⟨_,rfl⟩
 obtain ⟨H,hH⟩:∃ H,H=Fq.wD hn hr:=⟨_,rfl⟩
 obtain ⟨O,hO⟩:∃ O,O=Fq.wD tn tr:=⟨_,rfl⟩
 rw [← hX] at h1
 rw [← hY] at h2
 rw [← hZ] at h3
 rw [← hX,← hY,← hZ,← hH,← hO] at h4w
 rw [← hH,← hO,← hR] at h5
 rw [← hX,← hY,← hZ,← hR]
 clear hX hY hZ hH hO hR c1 c2 cz zV r1 r2 h4 hsum hT hQ hd1 hd2 hL
 go_enter Tryz.func161,Tryz.ntmps161
 go_wp2
 refine wp_scope_straight ?_
 go_wp2_with fail
 refine SM h1 ?_;clear h1
 go_wp2_with fail
 refine SM h2 ?_;clear h2
 go_wp2_with fail
 refine SM h3 ?_;clear h3
 go_wp2_with fail
 refine h4w.mono ?_;rintro e w1 ⟨rfl,k1⟩
 have h6:=h5 w1 k1
 clear h4w h5
 go_wp2_with fail
 refine h6.mono ?_;rintro e w2 ⟨rfl,k2⟩
 have kk:=k1.trans k2
 clear h6 k1 k2
 go_wp2
 try rw [Exit.noGoto_ret]
 exact BR (v:=.float .f64 R) (by simp [results,Tryz.results161,go_sem]) rfl ⟨rfl,kk⟩
theorem pfmaE_ (d:Int) (n n' nz:Bool) (m m' mz:Nat) (hm:m<9218868437227405312) (hm':m'<9218868437227405312) (hmz:mz<9218868437227405312) (ct:¬ ((2580562586483294208≤m∧m≤6633802251116740608)∧(2580562586483294208≤m'∧m'≤6633802251116740608)∧mz≤9110782046170513408)) (L:Nat) (hL:L=1074) (w:World) (hT:Tab w) (hQ:Fq.Tab w) (hd1:-9223372036854775808≤d) (hd2:d<9223372036854775808) :
  Calls Tryz.prog 161 #[.int .i64 d,.float .f64 (Fq.wD n m),.float .f64 (Fq.wD n' m'),.float .f64 (Fq.wD nz mz)] w fun e w'=>e=.returned (.float .f64 (fmaW d (Iv n m*Iv n' m'+Iv nz mz*((2 ^ L:Nat):Int))))∧Kp w w':=by
 have h1:=mild_ n m (by omega) w
 have h2:=mild_ n' m' (by omega) w
 have h3:=tame_ nz mz (by omega) w
 have g1:=finite_ n m (by omega) w
 have g2:=finite_ n' m' (by omega) w
 have g3:=finite_ nz mz (by omega) w
 rw [decide_eq_true hm] at g1
 rw [decide_eq_true hm'] at g2
 rw [decide_eq_true hmz] at g3
 obtain ⟨a,ea,a1,a2,a3,a4,ta⟩:=take_ n m hm
 obtain ⟨b,eb,b1,b2,b3,b4,tb⟩:=take_ n' m' hm'
 obtain ⟨c,ec,c1,c2,c3,c4,tc⟩:=take_ nz mz hmz
 obtain ⟨s,hs⟩:∃ s,s=(n && !(m == 0)):=⟨_,rfl⟩
 obtain ⟨t,ht⟩:∃ t,t=(n' && !(m' == 0)):=⟨_,rfl⟩
 obtain ⟨u,hu⟩:∃ u,u=(nz && !(mz == 0)):=⟨_,rfl⟩
 rw [← hs] at ta
 rw [← ht] at tb
 rw [← hu] at tc
 have sv:∀ (q:Bool) (p:Nat),Iv q p=if (q && !(p == 0)) then -((Fq.vV Ieee.double p:Nat):Int) else ((Fq.vV Ieee.double p:Nat):Int):=fun q p=>by
  unfold Iv
  by_cases z:p=0
  ·rw [(vV_zero p).2 z];cases q <;> simp
  ·rw [show (q && !(p == 0))=q from by simp [z]]
 have iX:=sv n m
 have iY:=sv n' m'
 have iZ:=sv nz mz
 rw [← hs,← a1] at iX
 rw [← ht,← b1] at iY
 rw [← hu,← c1] at iZ
 have ba:blen a≤53:=by rw [blen_le_iff,show (2:Nat) ^ 53=9007199254740992 from by decide];exact a4
 have bb:blen b≤53:=by rw [blen_le_iff,show (2:Nat) ^ 53=9007199254740992 from by decide];exact b4
 have bc:blen c≤53:=by rw [blen_le_iff,show (2:Nat) ^ 53=9007199254740992 from by decide];exact c4
 have hab:blen (a*b)≤106:=by
  have h:blen (a*b)≤53+53:=by
   rw [blen_le_iff,Nat.pow_add]
   exact Nat.mul_lt_mul'' ((blen_le_iff a 53).1 ba) ((blen_le_iff b 53).1 bb)
  omega
 obtain ⟨ng,cc,low,f1,f2,hp⟩:=plusAnyW_ (a*b) c (ea+eb) ec hab (by omega) (by omega) (by omega) (by omega) (by omega) (s ^^ t) u (Iv n m*Iv n' m') (Iv nz mz*((2 ^ L:Nat):Int)) (by
   rw [iX,iY,show (ea+eb+2148).toNat=(ea+1074).toNat+(eb+1074).toNat from by omega,Nat.pow_add]
   have e:a*b*(2 ^ (ea+1074).toNat*2 ^ (eb+1074).toNat)=a*2 ^ (ea+1074).toNat*(b*2 ^ (eb+1074).toNat):=by ac_rfl
   rw [e,Int.natCast_mul]
   cases s <;> cases t <;> simp [Int.neg_mul,Int.mul_neg]) (by
   rw [iZ,show (ec+2148).toNat=(ec+1074).toNat+L from by omega,Nat.pow_add,← Nat.mul_assoc,Int.natCast_mul]
   cases u <;> simp [Int.neg_mul])
 obtain ⟨R,hR⟩:∃ R,R=fmaW d (Iv n m*Iv n' m'+Iv nz mz*((2 ^ L:Nat):Int)):=⟨_,rfl⟩
 have hr:∀ (v:Value) (w1:World),Kp w w1→Ls w1 v (dig cc)→Calls Tryz.prog 180 #[.agg #[.bool ng,v,.int .i64 low],.int .i64 d] w1 fun e w'=>e=.returned (.float .f64 R)∧Kp w1 w':=fun v w1 k1 l1=>by
  rw [hR,← f1 d];exact rounded_ d ng cc low v w1 l1 (hT.grown k1) (Fq.Tab.grown hQ k1) hd1 hd2 f2
 have hm9:=fun va vb w1 la lb=>times_ s t a b ea eb va vb w1 la lb a4 b4 a2 a3 b2 b3
 obtain ⟨X,hX⟩:∃ X,X=Fq.wD n m:=⟨_,rfl⟩
 obtain ⟨Y,hY⟩:∃ Y,Y=Fq.wD n' m':=⟨_,rfl⟩
 obtain ⟨Z,hZ⟩:∃ Z,Z=Fq.wD nz mz:=⟨_,rfl⟩
 rw [← hX] at h1 g1 ta
 rw [← hY] at h2 g2 tb
 rw [← hZ] at h3 g3 tc
 rw [← hX,← hY,← hZ,← hR]
 have ta1:=ta w hQ
 have tb1:=fun w1 (k:Kp w w1)=>tb w1 (Fq.Tab.grown hQ k)
 have tc1:=fun w1 (k:Kp w w1)=>tc w1 (Fq.Tab.grown hQ k)
 obtain ⟨ee,hee⟩:∃ ee,ee=ea+eb:=⟨_,rfl⟩
 obtain ⟨st,hst⟩:∃ st,st=(s ^^ t):=⟨_,rfl⟩
 rw [← hee,← hst] at hp
 simp only [← hee,← hst] at hm9
 have HT:Hid ((2580562586483294208≤m∧m≤6633802251116740608)→(2580562586483294208≤m'∧m'≤6633802251116740608)→¬ mz≤9110782046170513408):=fun h h' h2=>ct ⟨h,h',h2⟩
 clear hX hY hZ hR f1 f2 a1 a2 a3 a4 b1 b2 b3 b4 c1 c2 c3 c4 ta tb tc hT hQ hd1 hd2 ct hm hm' hmz hs ht hu sv iX iY iZ ba bb bc hab hee hst hL
 go_enter Tryz.func161,Tryz.ntmps161
 go_wp2
 refine wp_scope_jumps 0 (fun a' w'=>w'=w∧∃ u4 u5 u6 u7 u8 u9 u10 u11 u12 u13 u14 u15 u16 u17 u18 u19 u20 u21 u22 u23 u24 u25 u26 u27 u28 u29 u30 u31 u32 u33 u34 u35 u36 u37 u38 u39 u40 u41 u42 u43 u44 u45 u46 u47 u48 u49 u50 u51 u52 u53 u54 u55 u56 u57 u58 u59 u60 u61 u62 u63:Value,a'=⟨#[.int .i64 d,.float .f64 X,.float .f64 Y,.float .f64 Z,u4,u5,u6,u7,u8,u9,u10,u11,u12,u13,u14,u15,u16,u17,u18,u19,u20,u21,u22,u23,u24,u25,u26,u27,u28,u29,u30,u31,u32,u33,u34,u35,u36,u37,u38,u39,u40,u41,u42,u43,u44,u45,u46,u47,u48,u49,u50,u51,u52,u53,u54,u55,u56,u57,u58,u59,u60,u61,u62,u63],[]⟩) (fun _ _=>0) rfl ?_ ?_
 ·clear g1 g2 g3 ta1 tb1 tc1 hp hr hm9
  by_cases c1:(2580562586483294208≤m∧m≤6633802251116740608)
  ·rw [decide_eq_true c1] at h1
   by_cases c2:(2580562586483294208≤m'∧m'≤6633802251116740608)
   ·rw [decide_eq_true c2] at h2
    rw [decide_eq_false (HT.out c1 c2)] at h3
    clear c1 c2 HT
    go_wp2_with fail
    refine SM h1 ?_;clear h1
    go_wp2_with fail
    refine SM h2 ?_;clear h2
    go_wp2_with fail
    refine SM h3 ?_;clear h3
    go_wp2_with fail
    go_step3
    exact ⟨rfl,rfl,_,_,_,_,_,_,_,_,_,_,_,_,_,_,_,_,_,_,_,_,_,_,_,_,_,_,_,_,_,_,_,_,_,_,_,_,_,_,_,_,_,_,_,_,_,_,_,_,_,_,_,_,_,_,_,_,_,_,_,_,rfl⟩
   ·rw [decide_eq_false c2] at h2
    clear c1 c2 HT h3
    go_wp2_with fail
    refine SM h1 ?_;clear h1
    go_wp2_with fail
    refine SM h2 ?_;clear h2
    go_wp2_with fail
    go_step3
    exact ⟨rfl,rfl,_,_,_,_,_,_,_,_,_,_,_,_,_,_,_,_,_,_,_,_,_,_,_,_,_,_,_,_,_,_,_,_,_,_,_,_,_,_,_,_,_,_,_,_,_,_,_,_,_,_,_,_,_,_,_,_,_,_,_,_,rfl⟩
  ·rw [decide_eq_false c1] at h1
   clear c1 HT h2 h3
   go_wp2_with fail
   refine SM h1 ?_;clear h1
   go_wp2_with fail
   go_step3
   exact ⟨rfl,rfl,_,_,_,_,_,_,_,_,_,_,_,_,_,_,_,_,_,_,_,_,_,_,_,_,_,_,_,_,_,_,_,_,_,_,_,_,_,_,_,_,_,_,_,_,_,_,_,_,_,_,_,_,_,_,_,_,_,_,_,_,rfl⟩
 ·rintro a' w' ⟨rfl,u4,u5,u6,u7,u8,u9,u10,u11,u12,u13,u14,u15,u16,u17,u18,u19,u20,u21,u22,u23,u24,u25,u26,u27,u28,u29,u30,u31,u32,u33,u34,u35,u36,u37,u38,u39,u40,u41,u42,u43,u44,u45,u46,u47,u48,u49,u50,u51,u52,u53,u54,u55,u56,u57,u58,u59,u60,u61,u62,u63,rfl⟩
  clear h1 h2 h3 HT
  go_wp2_with fail
  refine g1.mono ?_;rintro e w9 ⟨rfl,hw'⟩;obtain rfl:=hw'.symm;clear hw' g1
  go_wp2_with fail
  refine g2.mono ?_;rintro e w9 ⟨rfl,hw'⟩;obtain rfl:=hw'.symm;clear hw' g2
  go_wp2_with fail
  refine g3.mono ?_;rintro e w9 ⟨rfl,hw'⟩;obtain rfl:=hw'.symm;clear hw' g3
  go_wp2_with fail
  refine ta1.mono ?_;rintro e w1 ⟨va,rfl,lva,k1⟩
  have tb2:=tb1 w1 k1
  clear ta1 tb1
  go_wp2_with fail
  refine tb2.mono ?_;rintro e w2 ⟨vb,rfl,lvb,k2⟩
  have hm2:=hm9 va vb w2 (lva.kp k2) lvb
  have k02:=k1.trans k2
  clear tb2 hm9 lva lvb k1 k2
  go_wp2_with fail
  refine hm2.mono ?_;rintro e w3 ⟨vp,rfl,lvp,k3⟩
  have k03:=k02.trans k3
  have tc2:=tc1 w3 k03
  clear hm2 k02 k3 tc1
  go_wp2_with fail
  refine tc2.mono ?_;rintro e w4 ⟨vc,rfl,lvc,k4⟩
  have hp2:=hp vp vc w4 (lvp.kp k4) lvc
  have k04:=k03.trans k4
  clear tc2 hp lvp lvc k03 k4
  go_wp2_with fail
  refine hp2.mono ?_;rintro e w5 ⟨v,rfl,lv,k5⟩
  have k05:=k04.trans k5
  have hr2:=hr v w5 k05 lv
  clear hp2 hr k04 k5 lv
  go_wp2_with fail
  refine hr2.mono ?_;rintro e w6 ⟨rfl,k6⟩
  have k06:=k05.trans k6
  clear hr2 k05 k6
  go_wp2
  try simp only [Exit.jump]
  exact BR (v:=.float .f64 R) (by simp [results,Tryz.results161,go_sem]) rfl ⟨rfl,k06⟩
theorem pfmaZ_ (d:Int) (n n' nz:Bool) (m m' mz:Nat) (hm:m<9223372036854775808) (hm':m'<9223372036854775808) (hmz:mz<9223372036854775808) (i1:m<9218868437227405312) (i2:m'<9218868437227405312) (i3:¬ mz<9218868437227405312) (w:World) :
  Calls Tryz.prog 161 #[.int .i64 d,.float .f64 (Fq.wD n m),.float .f64 (Fq.wD n' m'),.float .f64 (Fq.wD nz mz)] w fun e w'=>e=.returned (.float .f64 (Fq.wD nz mz))∧Kp w w':=by
 have h1:=mild_ n m hm w
 have h2:=mild_ n' m' hm' w
 have h3:=tame_ nz mz hmz w
 have g1:=finite_ n m hm w
 have g2:=finite_ n' m' hm' w
 have g3:=finite_ nz mz hmz w
 obtain ⟨X,hX⟩:∃ X,X=Fq.wD n m:=⟨_,rfl⟩
 obtain ⟨Y,hY⟩:∃ Y,Y=Fq.wD n' m':=⟨_,rfl⟩
 obtain ⟨Z,hZ⟩:∃ Z,Z=Fq.wD nz mz:=⟨_,rfl⟩
 rw [decide_eq_true i1] at g1
 rw [decide_eq_true i2] at g2
 rw [decide_eq_false i3] at g3
 rw [← hX] at h1 g1
 rw [← hY] at h2 g2
 rw [← hZ] at h3 g3
 rw [← hX,← hY,← hZ]
 have HT:Hid ((2580562586483294208≤m∧m≤6633802251116740608)→(2580562586483294208≤m'∧m'≤6633802251116740608)→¬ mz≤9110782046170513408):=fun h h' h2=>by omega
 clear hX hY hZ hm hm' hmz i1 i2 i3
 go_enter Tryz.func161,Tryz.ntmps161
 go_wp2
 refine wp_scope_jumps 0 (fun a' w'=>w'=w∧∃ u4 u5 u6 u7 u8 u9 u10 u11 u12 u13 u14 u15 u16 u17 u18 u19 u20 u21 u22 u23 u24 u25 u26 u27 u28 u29 u30 u31 u32 u33 u34 u35 u36 u37 u38 u39 u40 u41 u42 u43 u44 u45 u46 u47 u48 u49 u50 u51 u52 u53 u54 u55 u56 u57 u58 u59 u60 u61 u62 u63:Value,a'=⟨#[.int .i64 d,.float .f64 X,.float .f64 Y,.float .f64 Z,u4,u5,u6,u7,u8,u9,u10,u11,u12,u13,u14,u15,u16,u17,u18,u19,u20,u21,u22,u23,u24,u25,u26,u27,u28,u29,u30,u31,u32,u33,u34,u35,u36,u37,u38,u39,u40,u41,u42,u43,u44,u45,u46,u47,u48,u49,u50,u51,u52,u53,u54,u55,u56,u57,u58,u59,u60,u61,u62,u63],[]⟩) (fun _ _=>0) rfl ?_ ?_
 ·clear g1 g2 g3
  by_cases c1:(2580562586483294208≤m∧m≤6633802251116740608)
  ·rw [decide_eq_true c1] at h1
   by_cases c2:(2580562586483294208≤m'∧m'≤6633802251116740608)
   ·rw [decide_eq_true c2] at h2
    rw [decide_eq_false (HT.out c1 c2)] at h3
    clear c1 c2 HT
    go_wp2_with fail
    refine SM h1 ?_;clear h1
    go_wp2_with fail
    refine SM h2 ?_;clear h2
    go_wp2_with fail
    refine SM h3 ?_;clear h3
    go_wp2_with fail
    go_step3
    exact ⟨rfl,rfl,_,_,_,_,_,_,_,_,_,_,_,_,_,_,_,_,_,_,_,_,_,_,_,_,_,_,_,_,_,_,_,_,_,_,_,_,_,_,_,_,_,_,_,_,_,_,_,_,_,_,_,_,_,_,_,_,_,_,_,_,rfl⟩
   ·rw [decide_eq_false c2] at h2
    clear c1 c2 HT h3
    go_wp2_with fail
    refine SM h1 ?_;clear h1
    go_wp2_with fail
    refine SM h2 ?_;clear h2
    go_wp2_with fail
    go_step3
    exact ⟨rfl,rfl,_,_,_,_,_,_,_,_,_,_,_,_,_,_,_,_,_,_,_,_,_,_,_,_,_,_,_,_,_,_,_,_,_,_,_,_,_,_,_,_,_,_,_,_,_,_,_,_,_,_,_,_,_,_,_,_,_,_,_,_,rfl⟩
  ·rw [decide_eq_false c1] at h1
   clear c1 HT h2 h3
   go_wp2_with fail
   refine SM h1 ?_;clear h1
   go_wp2_with fail
   go_step3
   exact ⟨rfl,rfl,_,_,_,_,_,_,_,_,_,_,_,_,_,_,_,_,_,_,_,_,_,_,_,_,_,_,_,_,_,_,_,_,_,_,_,_,_,_,_,_,_,_,_,_,_,_,_,_,_,_,_,_,_,_,_,_,_,_,_,_,rfl⟩
 ·rintro a' w' ⟨rfl,u4,u5,u6,u7,u8,u9,u10,u11,u12,u13,u14,u15,u16,u17,u18,u19,u20,u21,u22,u23,u24,u25,u26,u27,u28,u29,u30,u31,u32,u33,u34,u35,u36,u37,u38,u39,u40,u41,u42,u43,u44,u45,u46,u47,u48,u49,u50,u51,u52,u53,u54,u55,u56,u57,u58,u59,u60,u61,u62,u63,rfl⟩
  clear h1 h2 h3 HT
  go_wp2_with fail
  refine g1.mono ?_;rintro e w9 ⟨rfl,hw'⟩;obtain rfl:=hw'.symm;clear hw' g1
  go_wp2_with fail
  refine g2.mono ?_;rintro e w9 ⟨rfl,hw'⟩;obtain rfl:=hw'.symm;clear hw' g2
  go_wp2_with fail
  refine g3.mono ?_;rintro e w9 ⟨rfl,hw'⟩;obtain rfl:=hw'.symm;clear hw' g3
  go_wp2
  try simp only [Exit.jump]
  exact BR (v:=.float .f64 Z) (by simp [results,Tryz.results161,go_sem]) rfl ⟨rfl,Kp.refl _⟩
theorem pfmaI_ (d:Int) (n n' nz:Bool) (m m' mz:Nat) (hm:m<9223372036854775808) (hm':m'<9223372036854775808) (hmz:mz<9223372036854775808) (hi:¬ (m<9218868437227405312∧m'<9218868437227405312)) (w w8 w9:World) (RP RR:Nat) (hrun1:(binOp .mul 27 (.float .f64 (Fq.wD n m)) (.float .f64 (Fq.wD n' m'))).run Tryz.prog w=.ok (.float .f64 RP) w8) (hrun2:(binOp .add 27 (.float .f64 RP) (.float .f64 (Fq.wD nz mz))).run Tryz.prog w8=.ok (.float .f64 RR) w9) (hk:Kp w w9) :
  Calls Tryz.prog 161 #[.int .i64 d,.float .f64 (Fq.wD n m),.float .f64 (Fq.wD n' m'),.float .f64 (Fq.wD nz mz)] w fun e w'=>e=.returned (.float .f64 RR)∧Kp w w':=by
 have h1:=mild_ n m hm w
 have h2:=mild_ n' m' hm' w
 have h3:=tame_ nz mz hmz w
 have g1:=finite_ n m hm w
 have g2:=finite_ n' m' hm' w
 have g3:=finite_ nz mz hmz w
 obtain ⟨X,hX⟩:∃ X,X=Fq.wD n m:=⟨_,rfl⟩
 obtain ⟨Y,hY⟩:∃ Y,Y=Fq.wD n' m':=⟨_,rfl⟩
 obtain ⟨Z,hZ⟩:∃ Z,Z=Fq.wD nz mz:=⟨_,rfl⟩
 rw [← hX] at h1 g1
 rw [← hY] at h2 g2
 rw [← hZ] at h3
 rw [← hX,← hY] at hrun1
 rw [← hZ] at hrun2
 rw [← hX,← hY,← hZ]
 have HT:Hid ((2580562586483294208≤m∧m≤6633802251116740608)→(2580562586483294208≤m'∧m'≤6633802251116740608)→¬ mz≤9110782046170513408):=fun h h' h2=>hi ⟨by omega,by omega⟩
 have HI:Hid (m<9218868437227405312→¬ m'<9218868437227405312):=fun h h'=>hi ⟨h,h'⟩
 clear hX hY hZ hm hm' hmz hi g3
 go_enter Tryz.func161,Tryz.ntmps161
 go_wp2
 refine wp_scope_jumps 0 (fun a' w'=>w'=w∧∃ u4 u5 u6 u7 u8 u9 u10 u11 u12 u13 u14 u15 u16 u17 u18 u19 u20 u21 u22 u23 u24 u25 u26 u27 u28 u29 u30 u31 u32 u33 u34 u35 u36 u37 u38 u39 u40 u41 u42 u43 u44 u45 u46 u47 u48 u49 u50 u51 u52 u53 u54 u55 u56 u57 u58 u59 u60 u61 u62 u63:Value,a'=⟨#[.int .i64 d,.float .f64 X,.float .f64 Y,.float .f64 Z,u4,u5,u6,u7,u8,u9,u10,u11,u12,u13,u14,u15,u16,u17,u18,u19,u20,u21,u22,u23,u24,u25,u26,u27,u28,u29,u30,u31,u32,u33,u34,u35,u36,u37,u38,u39,u40,u41,u42,u43,u44,u45,u46,u47,u48,u49,u50,u51,u52,u53,u54,u55,u56,u57,u58,u59,u60,u61,u62,u63],[]⟩) (fun _ _=>0) rfl ?_ ?_
 ·clear g1 g2 hrun1 hrun2 HI
  by_cases c1:(2580562586483294208≤m∧m≤6633802251116740608)
  ·rw [decide_eq_true c1] at h1
   by_cases c2:(2580562586483294208≤m'∧m'≤6633802251116740608)
   ·rw [decide_eq_true c2] at h2
    rw [decide_eq_false (HT.out c1 c2)] at h3
    clear c1 c2 HT
    go_wp2_with fail
    refine SM h1 ?_;clear h1
    go_wp2_with fail
    refine SM h2 ?_;clear h2
    go_wp2_with fail
    refine SM h3 ?_;clear h3
    go_wp2_with fail
    go_step3
    exact ⟨rfl,rfl,_,_,_,_,_,_,_,_,_,_,_,_,_,_,_,_,_,_,_,_,_,_,_,_,_,_,_,_,_,_,_,_,_,_,_,_,_,_,_,_,_,_,_,_,_,_,_,_,_,_,_,_,_,_,_,_,_,_,_,_,rfl⟩
   ·rw [decide_eq_false c2] at h2
    clear c1 c2 HT h3
    go_wp2_with fail
    refine SM h1 ?_;clear h1
    go_wp2_with fail
    refine SM h2 ?_;clear h2
    go_wp2_with fail
    go_step3
    exact ⟨rfl,rfl,_,_,_,_,_,_,_,_,_,_,_,_,_,_,_,_,_,_,_,_,_,_,_,_,_,_,_,_,_,_,_,_,_,_,_,_,_,_,_,_,_,_,_,_,_,_,_,_,_,_,_,_,_,_,_,_,_,_,_,_,rfl⟩
  ·rw [decide_eq_false c1] at h1
   clear c1 HT h2 h3
   go_wp2_with fail
   refine SM h1 ?_;clear h1
   go_wp2_with fail
   go_step3
   exact ⟨rfl,rfl,_,_,_,_,_,_,_,_,_,_,_,_,_,_,_,_,_,_,_,_,_,_,_,_,_,_,_,_,_,_,_,_,_,_,_,_,_,_,_,_,_,_,_,_,_,_,_,_,_,_,_,_,_,_,_,_,_,_,_,_,rfl⟩
 ·rintro a' w' ⟨rfl,u4,u5,u6,u7,u8,u9,u10,u11,u12,u13,u14,u15,u16,u17,u18,u19,u20,u21,u22,u23,u24,u25,u26,u27,u28,u29,u30,u31,u32,u33,u34,u35,u36,u37,u38,u39,u40,u41,u42,u43,u44,u45,u46,u47,u48,u49,u50,u51,u52,u53,u54,u55,u56,u57,u58,u59,u60,u61,u62,u63,rfl⟩
  clear h1 h2 h3 HT
  by_cases c1:m<9218868437227405312
  ·rw [decide_eq_true c1] at g1
   rw [decide_eq_false (HI.out c1)] at g2
   clear c1 HI
   go_wp2_with fail
   refine g1.mono ?_;rintro e w7 ⟨rfl,hw'⟩;obtain rfl:=hw'.symm;clear hw' g1
   go_wp2_with fail
   refine g2.mono ?_;rintro e w7 ⟨rfl,hw'⟩;obtain rfl:=hw'.symm;clear hw' g2
   go_wp2
   try simp only [Exit.jump]
   exact BR (v:=.float .f64 RR) (by simp [results,Tryz.results161,go_sem]) rfl ⟨rfl,hk⟩
  ·rw [decide_eq_false c1] at g1
   clear c1 HI g2
   go_wp2_with fail
   refine g1.mono ?_;rintro e w7 ⟨rfl,hw'⟩;obtain rfl:=hw'.symm;clear hw' g1
   go_wp2
   try simp only [Exit.jump]
   exact BR (v:=.float .f64 RR) (by simp [results,Tryz.results161,go_sem]) rfl ⟨rfl,hk⟩

set_option linter.unusedVariables false
def pz (z:Int):Nat:=Fq.wD (decide (z<0)) z.natAbs
def g53 (d:Int) (c1 c2:Nat) (V:Int):Int:=gpl 53 2098 9218868437227405311 9218868437227405312 d c1 c2 V
theorem g53_mono (d:Int) (c1 c2:Nat) (hc:0<c2) (V V':Int) (h:V≤V'):g53 d c1 c2 V≤g53 d c1 c2 V':=gpl_mono 53 2098 9218868437227405311 9218868437227405312 d c1 c2 hc (by decide) (by decide) (by decide) (by decide) V V' h
theorem g53_le (d:Int) (c1 c2:Nat) (V:Int):-9218868437227405312≤g53 d c1 c2 V∧g53 d c1 c2 V≤9218868437227405312:=gpl_le 53 2098 9218868437227405311 9218868437227405312 d c1 c2 (by decide) (by decide) (by decide) (by decide) V
theorem mdW_pz (s:Bool) (M:Nat):mdW s M=pz (if s then -(M:Int) else M):=by
 unfold mdW pz Fq.wD
 by_cases z:M=0
 ·rw [if_pos z,z];cases s <;> simp
 ·rw [if_neg z]
  cases s
  ·simp <;> omega
  ·simp <;> omega
theorem sumW_g (d V:Int):sumW d V=pz (g53 d 1 1 V):=by
 unfold sumW g53 gpl
 by_cases z:V=0
 ·rw [if_pos z,if_pos z];rfl
 ·rw [if_neg z,if_neg z,mdW_pz,Nat.mul_one]
  by_cases n:V<0
  ·rw [if_pos n,decide_eq_true n];rfl
  ·rw [if_neg n,decide_eq_false n];rfl
theorem rV_neg (d:Int) (A K:Nat):rV d 53 A 1 (-(K:Int))=rU d 53 (A*1) (2 ^ K):=by
 unfold rV
 rw [show (-(K:Int)).toNat=0 from by omega,show (- -(K:Int)).toNat=K from by omega,Nat.pow_zero,Nat.one_mul]
theorem fmaW_g (K:Nat) (hK:K=1074) (d V:Int):fmaW d V=pz (g53 d 1 (2 ^ K) V):=by
 unfold fmaW g53 gpl
 rw [show (-1074:Int) = -(K:Int) from by omega]
 by_cases z:V=0
 ·rw [if_pos z,if_pos z];rfl
 ·rw [if_neg z,if_neg z,mdW_pz,rV_neg]
  by_cases n:V<0
  ·rw [if_pos n,decide_eq_true n];rfl
  ·rw [if_neg n,decide_eq_false n];rfl
set_option linter.unusedVariables false
set_option linter.unusedVariables false
theorem addG_ (d:Int) (n n':Bool) (m m':Nat) (hm:m<9218868437227405312) (hm':m'<9218868437227405312) (hd1:-9223372036854775808≤d) (hd2:d<9223372036854775808) (w:World) (hT:Tab w) (hQ:Fq.Tab w):Calls Tryz.prog 140 #[.int .i64 d,.float .f64 (Fq.wD n m),.float .f64 (Fq.wD n' m')] w fun e w'=>e=.returned (.float .f64 (pz (g53 d 1 1 (Iv n m+Iv n' m'))))∧Kp w w':=by
 rw [← sumW_g]
 exact paddF_ d n n' m m' hm hm' w hT hQ hd1 hd2
theorem fmaG_ (K:Nat) (hK:K=1074) (d:Int) (n n' nz:Bool) (m m' mz:Nat) (hm:m<9218868437227405312) (hm':m'<9218868437227405312) (hmz:mz<9218868437227405312) (hd1:-9223372036854775808≤d) (hd2:d<9223372036854775808) (w:World) (hT:Tab w) (hQ:Fq.Tab w):Calls Tryz.prog 161 #[.int .i64 d,.float .f64 (Fq.wD n m),.float .f64 (Fq.wD n' m'),.float .f64 (Fq.wD nz mz)] w fun e w'=>e=.returned (.float .f64 (pz (g53 d 1 (2 ^ K) (Iv n m*Iv n' m'+Iv nz mz*((2 ^ K:Nat):Int)))))∧Kp w w':=by
 rw [← fmaW_g K hK]
 by_cases ct:(2580562586483294208≤m∧m≤6633802251116740608)∧(2580562586483294208≤m'∧m'≤6633802251116740608)∧mz≤9110782046170513408
 ·exact pfmaQ_ d n n' nz m m' mz ct.1 ct.2.1 ct.2.2 K hK w hT hQ hd1 hd2
 ·exact pfmaE_ d n n' nz m m' mz hm hm' hmz ct K hK w hT hQ hd1 hd2

set_option linter.unusedVariables false
def sgI (n:Bool):Int:=if n then -9218868437227405312 else 9218868437227405312
def oA (d:Int) (n:Bool) (m:Nat) (n':Bool) (m':Nat):Option Int:=if 9218868437227405312<m∨9218868437227405312<m'∨(m=9218868437227405312∧m'=9218868437227405312∧n≠n') then none else if m=9218868437227405312 then some (sgI n) else if m'=9218868437227405312 then some (sgI n') else some (g53 d 1 1 (Iv n m+Iv n' m'))
def oF (K:Nat) (d:Int) (n:Bool) (m:Nat) (n':Bool) (m':Nat) (nz:Bool) (mz:Nat):Option Int:=if m<9218868437227405312∧m'<9218868437227405312 then (if mz<9218868437227405312 then some (g53 d 1 (2 ^ K) (Iv n m*Iv n' m'+Iv nz mz*((2 ^ K:Nat):Int))) else if 9218868437227405312<mz then none else some (sgI nz)) else if 9218868437227405312<m∨9218868437227405312<m'∨(m=9218868437227405312∧m'=0)∨(m=0∧m'=9218868437227405312) then none else if 9218868437227405312<mz∨(mz=9218868437227405312∧(n ^^ n')≠nz) then none else some (sgI (n ^^ n'))
def ng (o:Option Int):Option Int:=o.map (fun z=>-z)
theorem sgI_le (n:Bool):-9218868437227405312≤sgI n∧sgI n≤9218868437227405312:=by cases n <;> decide
def okO (o:Option Int):Prop:=∀ z,o=some z→-9218868437227405312≤z∧z≤9218868437227405312
theorem ok_some (z:Int) (h:-9218868437227405312≤z∧z≤9218868437227405312):okO (some z):=fun y e=>by cases e;exact h
theorem ok_none:okO none:=fun y e=>by cases e
theorem okA (d:Int) (n:Bool) (m:Nat) (n':Bool) (m':Nat):okO (oA d n m n' m'):=by
 unfold oA
 split
 ·exact ok_none
 ·split
  ·exact ok_some _ (sgI_le _)
  ·split
   ·exact ok_some _ (sgI_le _)
   ·exact ok_some _ (g53_le _ _ _ _)
theorem wD_sg (n:Bool):Fq.wD n 9218868437227405312=pz (sgI n):=by cases n <;> decide

set_option linter.unusedVariables false
def sN (z:Int):Bool:=decide (z<0)
def adZ (d x y:Int):Int:=(oA d (sN x) x.natAbs (sN y) y.natAbs).getD 0
theorem okD0 {o:Option Int} (h:okO o):BdZ (o.getD 0):=by
 unfold BdZ
 cases o with
 | none=>simp
 | some z=>exact h z rfl
theorem adZ_bd (d x y:Int):BdZ (adZ d x y):=okD0 (okA _ _ _ _ _)
set_option linter.unusedVariables false
def IsO (o:Option Int) (R:Nat):Prop:=∀ z,o=some z→R=pz z
theorem bitsP_ (z:Int) (h:-9218868437227405312≤z∧z≤9218868437227405312):IsO (some z) (pz z):=fun y e=>by cases e;rfl
theorem bitsI_ (n:Bool):IsO (some (sgI n)) (Fq.wD n 9218868437227405312):=fun y e=>by cases e;exact wD_sg n
theorem bitsQ_ (R:Nat) (h1:9218868437227405312<R % 9223372036854775808) (h2:R<18446744073709551616):IsO none R:=fun y e=>by cases e
theorem addO_ (d:Int) (n n':Bool) (m m':Nat) (hm:m<9223372036854775808) (hm':m'<9223372036854775808) (hd1:-9223372036854775808≤d) (hd2:d<9223372036854775808) (w:World) (hT:Tab w) (hQ:Fq.Tab w):Calls Tryz.prog 140 #[.int .i64 d,.float .f64 (Fq.wD n m),.float .f64 (Fq.wD n' m')] w fun e w'=>∃ R,e=.returned (.float .f64 R)∧IsO (oA d n m n' m') R∧Kp w w':=by
 by_cases hi:m<9218868437227405312∧m'<9218868437227405312
 ·have e:oA d n m n' m'=some (g53 d 1 1 (Iv n m+Iv n' m')):=by
   unfold oA
   rw [if_neg (by omega),if_neg (by omega),if_neg (by omega)]
  rw [e]
  exact (addG_ d n n' m m' hi.1 hi.2 hd1 hd2 w hT hQ).mono fun e w' h=>⟨_,h.1,bitsP_ _ (g53_le _ _ _ _),h.2⟩
 ·by_cases hb:badS n m n' m'
  ·have e:oA d n m n' m'=none:=by
    have hb2:=hb
    unfold badS at hb2
    unfold oA
    rw [if_pos hb2]
   rw [e]
   exact (paddB_ d n n' m m' hm hm' hi hb w).mono fun e w' ⟨R,h1,h2,h3⟩=>⟨R,h1,bitsQ_ R h2.1 h2.2,h3⟩
  ·have e:oA d n m n' m'=some (sgI (if m=9218868437227405312 then n else n')):=by
    unfold oA
    unfold badS at hb
    rw [if_neg hb]
    by_cases c:m=9218868437227405312
    ·rw [if_pos c,if_pos c]
    ·rw [if_neg c,if_pos (by omega),if_neg c]
   rw [e]
   exact (paddI_ d n n' m m' hm hm' hi hb w).mono fun e w' h=>⟨_,h.1,bitsI_ _,h.2⟩
theorem fmaO_ (K:Nat) (hK:K=1074) (d:Int) (n n' nz:Bool) (m m' mz:Nat) (hm:m<9223372036854775808) (hm':m'<9223372036854775808) (hmz:mz<9223372036854775808) (hd1:-9223372036854775808≤d) (hd2:d<9223372036854775808) (w:World) (hT:Tab w) (hQ:Fq.Tab w):Calls Tryz.prog 161 #[.int .i64 d,.float .f64 (Fq.wD n m),.float .f64 (Fq.wD n' m'),.float .f64 (Fq.wD nz mz)] w fun e w'=>∃ R,e=.returned (.float .f64 R)∧IsO (oF K d n m n' m' nz mz) R∧Kp w w':=by
 by_cases hi:m<9218868437227405312∧m'<9218868437227405312
 ·by_cases c3:mz<9218868437227405312
  ·have e:oF K d n m n' m' nz mz=some (g53 d 1 (2 ^ K) (Iv n m*Iv n' m'+Iv nz mz*((2 ^ K:Nat):Int))):=by unfold oF;rw [if_pos hi,if_pos c3]
   rw [e]
   exact (fmaG_ K hK d n n' nz m m' mz hi.1 hi.2 c3 hd1 hd2 w hT hQ).mono fun e w' h=>⟨_,h.1,bitsP_ _ (g53_le _ _ _ _),h.2⟩
  ·have hz:=pfmaZ_ d n n' nz m m' mz hm hm' hmz hi.1 hi.2 c3 w
   by_cases c4:9218868437227405312<mz
   ·have e:oF K d n m n' m' nz mz=none:=by unfold oF;rw [if_pos hi,if_neg c3,if_pos c4]
    rw [e]
    exact hz.mono fun e w' h=>⟨_,h.1,bitsQ_ _ (by unfold Fq.wD;cases nz <;> simp <;> omega) (by unfold Fq.wD;cases nz <;> simp <;> omega),h.2⟩
   ·have e:oF K d n m n' m' nz mz=some (sgI nz):=by unfold oF;rw [if_pos hi,if_neg c3,if_neg c4]
    rw [e]
    rw [show mz=9218868437227405312 from by omega] at hz ⊢
    exact hz.mono fun e w' h=>⟨_,h.1,bitsI_ _,h.2⟩
 ·by_cases hb:badP m m'
  ·have e:oF K d n m n' m' nz mz=none:=by have hb2:=hb;unfold badP at hb2;unfold oF;rw [if_neg hi,if_pos hb2]
   rw [e]
   obtain ⟨RP,p1,p2,hrun⟩:=run_nan_mul _ _ (mul_bad n n' m m' hm hm' hb) w
   have hadd:FloatKind.f64.format.add RP (Fq.wD nz mz)=none:=by
    obtain ⟨a,b,hb9,hR⟩:=word_of RP p2
    rw [hR]
    exact add_bad a nz b mz (by omega) hmz (Or.inl (by omega))
   obtain ⟨RR,p3,p4,hrun2⟩:=run_nan _ _ hadd w.drew
   exact (pfmaI_ d n n' nz m m' mz hm hm' hmz hi w w.drew w.drew.drew RP RR hrun hrun2 (Kp.refl _).drew.drew).mono fun e w' h=>⟨RR,h.1,bitsQ_ RR p3 p4,h.2⟩
  ·have hmi:=mul_inf n n' m m' hb hi
   by_cases hs:badS (n ^^ n') 9218868437227405312 nz mz
   ·have e:oF K d n m n' m' nz mz=none:=by
     unfold oF
     unfold badP at hb
     rw [if_neg hi,if_neg hb,if_pos (by unfold badS at hs;rcases hs with h | h | h;omega;exact Or.inl h;exact Or.inr ⟨h.2.1,h.2.2⟩)]
    rw [e]
    obtain ⟨RR,p3,p4,hrun2⟩:=run_nan _ _ (add_bad (n ^^ n') nz 9218868437227405312 mz (by decide) hmz hs) w
    exact (pfmaI_ d n n' nz m m' mz hm hm' hmz hi w w w.drew _ RR (run_float_arith w .mul 27 .f64 _ _ _ hmi) hrun2 (Kp.refl _).drew).mono fun e w' h=>⟨RR,h.1,bitsQ_ RR p3 p4,h.2⟩
   ·have e:oF K d n m n' m' nz mz=some (sgI (n ^^ n')):=by
     unfold oF
     unfold badP at hb
     rw [if_neg hi,if_neg hb,if_neg (fun h=>hs (by unfold badS;rcases h with h | h;exact Or.inr (Or.inl h);exact Or.inr (Or.inr ⟨rfl,h.1,h.2⟩)))]
    rw [e]
    have ha:=add_inf (n ^^ n') nz 9218868437227405312 mz hs (by omega)
    rw [if_pos rfl] at ha
    exact (pfmaI_ d n n' nz m m' mz hm hm' hmz hi w w w _ _ (run_float_arith w .mul 27 .f64 _ _ _ hmi) (run_float_arith w .add 27 .f64 _ _ _ ha) (Kp.refl _)).mono fun e w' h=>⟨_,h.1,bitsI_ _,h.2⟩

theorem aI (z:Int) (h:BdZ z):z.natAbs<9223372036854775808:=by unfold BdZ at h;omega
def TT (w:World):Prop:=Tab w∧Fq.Tab w
theorem TT.kp {w w':World} (h:TT w) (g:Kp w w'):TT w':=⟨h.1.grown g,h.2.grown g⟩
theorem addP_ (d x y:Int) (hd1:-9223372036854775808≤d) (hd2:d<9223372036854775808) (hx:BdZ x) (hy:BdZ y) (hb:¬ (x=9218868437227405312∧y = -9218868437227405312)∧¬ (x = -9218868437227405312∧y=9218868437227405312)) (w:World) (hT:TT w):Calls Tryz.prog 140 #[.int .i64 d,.float .f64 (pw x),.float .f64 (pw y)] w fun e w'=>e=.returned (.float .f64 (pw (adZ d x y)))∧Kp w w':=by
 have h:=addO_ d (sN x) (sN y) x.natAbs y.natAbs (aI x hx) (aI y hy) hd1 hd2 w hT.1 hT.2
 refine h.mono ?_
 rintro e w' ⟨R,rfl,hR,k⟩
 have hz:∃ z,oA d (sN x) x.natAbs (sN y) y.natAbs=some z:=by
  unfold oA
  rw [if_neg (by
   unfold BdZ at hx hy
   unfold sN
   rintro (q | q | ⟨q1,q2,q3⟩)
   ·omega
   ·omega
   ·apply q3
    by_cases c:x<0
    ·rw [decide_eq_true c,decide_eq_true (by omega)]
    ·rw [decide_eq_false c,decide_eq_false (by omega)])]
  repeat' split
  all_goals exact ⟨_,rfl⟩
 obtain ⟨z,hz⟩:=hz
 refine ⟨?_,k⟩
 rw [hR z hz]
 unfold adZ
 rw [hz];rfl

set_option linter.unusedVariables false
def vZ (z:Int):Int:=Iv (decide (z<0)) z.natAbs
theorem vZ_pos (z:Int) (h:0≤z):vZ z=((Fq.vV Ieee.double z.natAbs:Nat):Int):=by
 unfold vZ Iv
 rw [decide_eq_false (show ¬ z<0 by omega)];rfl
theorem vV0X:Fq.vV Ieee.double 0=0:=by decide
theorem vZ_neg (z:Int):vZ (-z) = -vZ z:=by
 unfold vZ Iv
 rw [Int.natAbs_neg]
 by_cases z0:z=0
 ·rw [z0];simp [vV0X]
 ·by_cases c:z<0
  ·rw [decide_eq_true c,decide_eq_false (show ¬ -z<0 by omega)];simp
  ·rw [decide_eq_false c,decide_eq_true (show -z<0 by omega)];simp
theorem vV_place (E S:Nat) (h1:S≤2 ^ 53) (h2:E=0∨2 ^ (53 - 1)≤S):Fq.vV Ieee.double (E*2 ^ (53 - 1)+S)=S*2 ^ E:=by
 have hb:Ieee.double.binade=4503599627370496:=by decide
 have p1:(2:Nat) ^ (53 - 1)=4503599627370496:=by decide
 have p2:(2:Nat) ^ 53=9007199254740992:=by decide
 rw [p1] at h2 ⊢
 rw [p2] at h1
 unfold Fq.vV Fq.mM Fq.eE
 rw [hb]
 by_cases c:E*4503599627370496+S<4503599627370496
 ·have hE:E=0:=by omega
  rw [if_pos c,if_pos c,hE];simp
 ·rw [if_neg c,if_neg c]
  by_cases c2:S=9007199254740992
  ·rw [show (E*4503599627370496+S) / 4503599627370496 - 1=E+1 from by omega,show (E*4503599627370496+S) % 4503599627370496=0 from by omega,Nat.pow_succ,c2]
   generalize 2 ^ E=P
   omega
  ·rw [show (E*4503599627370496+S) / 4503599627370496 - 1=E from by omega,show 4503599627370496+(E*4503599627370496+S) % 4503599627370496=S from by omega]
theorem g53_tight (c1 c2:Nat) (hc:0<c2) (V:Int):TS 9218868437227405312 (Fq.vV Ieee.double) (V*c1) (c2:Int) (g53 (-1) c1 c2 V) (g53 1 c1 c2 V) (g53 0 c1 c2 V):=gpl_tight 53 2098 9218868437227405311 9218868437227405312 (Fq.vV Ieee.double) vV_place c1 c2 hc (by decide) (by decide) (by decide) (by decide) V
theorem g53_lohi (c1 c2:Nat) (hc:0<c2) (V:Int):g53 (-1) c1 c2 V≤g53 1 c1 c2 V∧g53 (-1) c1 c2 V<9218868437227405312∧-9218868437227405312<g53 1 c1 c2 V:=by
 have h:=g53_tight c1 c2 hc V vZ vZ_pos vZ_neg
 have b1:=g53_le (-1) c1 c2 V
 have b2:=g53_le 1 c1 c2 V
 rcases h with ⟨h1,_,h3,h4,_⟩ | ⟨h1,h2,h3,_⟩ <;> omega
theorem vZ_sn (z:Int):Iv (sN z) z.natAbs=vZ z:=rfl
theorem iv_le9 (n n':Bool) (m m':Nat) (h:Fq.plz n m≤Fq.plz n' m'):Iv n m≤Iv n' m':=by
 have h1:=Fq.vV_lt_iff Ieee.double m m'
 have h2:=Fq.vV_lt_iff Ieee.double m' m
 have h3:=vV_zero m
 have h4:=vV_zero m'
 unfold Iv
 unfold Fq.plz at h
 cases n <;> cases n' <;> simp at h ⊢ <;> omega
theorem vZ_le (x y:Int) (h:x≤y):vZ x≤vZ y:=iv_le9 _ _ _ _ (by rw [plz_pw,plz_pw];exact h)
theorem vZ_zero:vZ 0=0:=by rw [vZ_pos 0 (by omega)];exact congrArg _ vV0X
set_option linter.unusedVariables false
theorem adZ_fin (d x y:Int) (hx:-9218868437227405312<x∧x<9218868437227405312) (hy:-9218868437227405312<y∧y<9218868437227405312):adZ d x y=g53 d 1 1 (vZ x+vZ y):=by
 unfold adZ oA
 rw [if_neg (by omega),if_neg (by omega),if_neg (by omega),vZ_sn,vZ_sn];rfl
theorem adZ_lo (d x y:Int) (hx:-9218868437227405312≤x∧x<9218868437227405312) (hy:-9218868437227405312≤y∧y<9218868437227405312) (h:x = -9218868437227405312∨y = -9218868437227405312):adZ d x y = -9218868437227405312:=by
 unfold adZ oA
 have q:¬ (9218868437227405312<x.natAbs∨9218868437227405312<y.natAbs∨(x.natAbs=9218868437227405312∧y.natAbs=9218868437227405312∧sN x≠sN y)):=by
  rintro (c | c | ⟨c1,c2,c3⟩)
  ·omega
  ·omega
  ·apply c3
   unfold sN
   rw [decide_eq_true (by omega),decide_eq_true (by omega)]
 rw [if_neg q]
 by_cases c:x.natAbs=9218868437227405312
 ·rw [if_pos c]
  unfold sN
  rw [decide_eq_true (by omega)];rfl
 ·rw [if_neg c,if_pos (by omega)]
  unfold sN
  rw [decide_eq_true (show y<0 by omega)];rfl
theorem adZ_hi (d x y:Int) (hx:-9218868437227405312<x∧x≤9218868437227405312) (hy:-9218868437227405312<y∧y≤9218868437227405312) (h:x=9218868437227405312∨y=9218868437227405312):adZ d x y=9218868437227405312:=by
 unfold adZ oA
 have q:¬ (9218868437227405312<x.natAbs∨9218868437227405312<y.natAbs∨(x.natAbs=9218868437227405312∧y.natAbs=9218868437227405312∧sN x≠sN y)):=by
  rintro (c | c | ⟨c1,c2,c3⟩)
  ·omega
  ·omega
  ·apply c3
   unfold sN
   rw [decide_eq_false (by omega),decide_eq_false (by omega)]
 rw [if_neg q]
 by_cases c:x.natAbs=9218868437227405312
 ·rw [if_pos c]
  unfold sN
  rw [decide_eq_false (by omega)];rfl
 ·rw [if_neg c,if_pos (by omega)]
  unfold sN
  rw [decide_eq_false (show ¬ y<0 by omega)];rfl
theorem iv_lt9 (n n':Bool) (m m':Nat) (h:Fq.plz n m<Fq.plz n' m'):Iv n m<Iv n' m':=by
 have h1:=Fq.vV_lt_iff Ieee.double m m'
 have h2:=Fq.vV_lt_iff Ieee.double m' m
 have h3:=vV_zero m
 have h4:=vV_zero m'
 unfold Iv
 unfold Fq.plz at h
 cases n <;> cases n' <;> simp at h ⊢ <;> omega
theorem vZ_lt (x y:Int) (h:x<y):vZ x<vZ y:=iv_lt9 _ _ _ _ (by rw [plz_pw,plz_pw];exact h)
end Go.Proofs.YtmpjcknaelgnoaaGreatDoor
