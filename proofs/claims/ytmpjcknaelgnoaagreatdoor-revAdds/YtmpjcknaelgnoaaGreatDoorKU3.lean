import Derived.Test.YtmpjcknaelgnoaaGreatDoorKMR23
import Derived.Test.YtmpjcknaelgnoaaGreatDoorKS1
set_option maxHeartbeats 1000000
set_option maxRecDepth 20000
namespace Go.Proofs.YtmpjcknaelgnoaaGreatDoor
open Go.RowKit
theorem times_ (s t:Bool) (a b:Nat) (ea eb:Int) (va vb:Value) (w:World) (ha:Ls w va (dig a)) (hb:Ls w vb (dig b)) (la:a<9007199254740992) (lb:b<9007199254740992) (ea1:-1074≤ea) (ea2:ea≤2048) (eb1:-1074≤eb) (eb2:eb≤2048) :
  Calls Tryz.prog 194 #[.agg #[.bool s,va,.int .i64 ea],.agg #[.bool t,vb,.int .i64 eb]] w fun e w'=>∃ v,e=.returned (.agg #[.bool (s ^^ t),v,.int .i64 (ea+eb)])∧Ls w' v (dig (a*b))∧Kp w w':=by
 obtain ⟨pa,ca,rfl,ha,hca⟩:=ha
 obtain ⟨pb,cb,rfl,hb,hcb⟩:=hb
 obtain ⟨La,hLa⟩:∃ La,La=(dig a).length:=⟨_,rfl⟩
 obtain ⟨Lb,hLb⟩:∃ Lb,Lb=(dig b).length:=⟨_,rfl⟩
 rw [← hLa,← hLb]
 obtain ⟨B,hB⟩:∃ B,B=w.heap.size:=⟨_,rfl⟩
 obtain ⟨w0,hw0⟩:∃ w0,w0=((w.alloc (.cells #[.bool s,.slice pa La ca,.int .i64 ea] 149)).alloc (.cells #[.bool t,.slice pb Lb cb,.int .i64 eb] 149)).alloc (.cells #[.bool false,.slice none 0 0,.int .i64 0] 149):=⟨_,rfl⟩
 have hk0:Kp w w0:=by rw [hw0];exact (((Kp.refl w).alloc _).alloc _).alloc _
 obtain ⟨x0,x1,x2,y0,y1,y2,z0,z1,z2,f0,f1,f2⟩:w0.cell? ⟨B,0,none⟩=some (.bool s)∧w0.cell? ⟨B,1,none⟩=some (.slice pa La ca)∧w0.cell? ⟨B,2,none⟩=some (.int .i64 ea)∧w0.cell? ⟨B+1,0,none⟩=some (.bool t)∧w0.cell? ⟨B+1,1,none⟩=some (.slice pb Lb cb)∧w0.cell? ⟨B+1,2,none⟩=some (.int .i64 eb)∧w0.cell? ⟨B+2,0,none⟩=some (.bool false)∧w0.cell? ⟨B+2,1,none⟩=some (.slice none 0 0)∧w0.cell? ⟨B+2,2,none⟩=some (.int .i64 0)∧w0.frozen? ⟨B+2,0,none⟩=false∧w0.frozen? ⟨B+2,1,none⟩=false∧w0.frozen? ⟨B+2,2,none⟩=false:=by rw [hw0,hB];simp [go_sem]
 have hlt:=cell_lt z0
 have ba:blen a≤53:=by rw [blen_le_iff,show (2:Nat) ^ 53=9007199254740992 from by decide];exact la
 have bb:blen b≤53:=by rw [blen_le_iff,show (2:Nat) ^ 53=9007199254740992 from by decide];exact lb
 have la3:len32 a≤2:=dlen a 2 (by omega)
 have lb3:len32 b≤2:=dlen b 2 (by omega)
 have hab:len32 (a*b)≤16384:=dlen (a*b) 16384 (by
  have h:blen (a*b)≤53+53:=by
   rw [blen_le_iff,Nat.pow_add]
   exact Nat.mul_lt_mul'' ((blen_le_iff a 53).1 ba) ((blen_le_iff b 53).1 bb)
  omega)
 have q1:=nmul_ pa pb ca cb (dig a) (dig b) w0 (ha.grown hk0) (hb.grown hk0) (Wd_dig a) (Wd_dig b) (by change len32 a≤_;omega) (by change len32 b≤_;omega) hca hcb
 rw [val_dig,val_dig] at q1
 have hs:mulN a b=(dig (a*b),0):=by
  unfold mulN
  rw [if_neg (by omega),if_neg (by omega)]
 rw [hs,← hLa,← hLb] at q1
 have w1e:wrap64 (ea+eb)=ea+eb:=w64x _ (by omega) (by omega)
 have gne:∀ w:World,(binOp .neq 4 (.bool s) (.bool t)).run Tryz.prog w=.ok (.bool (s ^^ t)) w:=fun w=>by cases s <;> cases t <;> rfl
 obtain ⟨st,hst⟩:∃ st,st=(s ^^ t):=⟨_,rfl⟩
 have hst2:(s != t)=st:=by rw [hst]
 have hst3:(!decide (s=t))=st:=by rw [hst];cases s <;> cases t <;> rfl
 have hst4:(!(s == t))=st:=by rw [hst];cases s <;> cases t <;> rfl
 rw [← hst] at gne ⊢
 have HW:Hid (w0=((w.alloc (.cells #[.bool s,.slice pa La ca,.int .i64 ea] 149)).alloc (.cells #[.bool t,.slice pb Lb cb,.int .i64 eb] 149)).alloc (.cells #[.bool false,.slice none 0 0,.int .i64 0] 149)∧B=w.heap.size∧Kp w w0):=⟨hw0,hB,hk0⟩
 clear hst ha hca hb hcb la lb hLa hLb hw0 hB hk0 ba bb la3 lb3 hab hs
 go_enter Tryz.func194,Tryz.ntmps194
 go_wp2_with fail
 rw [← HW.out.2.1]
 try rw [← HW.out.1]
 refine q1.mono ?_;rintro e w1 ⟨v,rfl,ho,k1⟩
 obtain ⟨pv,cv,rfl,hav,hcv⟩:=ho.arr
 obtain ⟨LV,hLV⟩:∃ LV,LV=(dig (a*b)).length:=⟨_,rfl⟩
 rw [← hLV]
 replace x0:=kkeep k1 x0
 replace x1:=kkeep k1 x1
 replace x2:=kkeep k1 x2
 replace y0:=kkeep k1 y0
 replace y1:=kkeep k1 y1
 replace y2:=kkeep k1 y2
 replace z0:=kkeep k1 z0
 replace z1:=kkeep k1 z1
 replace z2:=kkeep k1 z2
 replace f0:=(kfro k1 hlt).trans f0
 replace f1:=(kfro k1 hlt).trans f1
 replace f2:=(kfro k1 hlt).trans f2
 have HO:Hid (Own w1 w0.heap.size (.slice pv (dig (a*b)).length cv) (dig (a*b))∧LV=(dig (a*b)).length∧Kp w0 w1∧B+2<w0.heap.size):=⟨ho,hLV,k1,hlt⟩
 clear q1 ho hav hcv k1 hLV
 go_wp2
 obtain ⟨ho,hL,k01,hBl⟩:=HO.out
 have kb:Kb (B+2) w1 (((w1.setCell ⟨B+2,0,none⟩ (.bool st)).setCell ⟨B+2,1,none⟩ (.slice pv LV cv)).setCell ⟨B+2,2,none⟩ (.int .i64 (ea+eb))):=(((Kb.refl (B+2) w1).setCell 0 _).setCell 1 _).setCell 2 _
 have ho2:=ho.kb kb (fun g hg=>by have:=ho.lt g hg;omega)
 have hls:=ho2.ls
 rw [← hL] at hls
 have hkw:Kp w (((w1.setCell ⟨B+2,0,none⟩ (.bool st)).setCell ⟨B+2,1,none⟩ (.slice pv LV cv)).setCell ⟨B+2,2,none⟩ (.int .i64 (ea+eb))):=kb.kp (HW.out.2.2.trans k01) (by rw [HW.out.2.1];omega)
 exact BR (v:=.agg #[.bool st,.slice pv LV cv,.int .i64 (ea+eb)]) (by simp [results,Tryz.results194,go_sem,z0,z1,z2]) rfl ⟨_,rfl,hls,hkw⟩
theorem nanD9 (n:Bool) (m:Nat) (h1:9218868437227405312<m) (h2:m<9223372036854775808):Ieee.double.read (Fq.wD n m)=.nan n (m - 9218868437227405312):=by
 rw [Fq.read_nan Ieee.double _ Fq.binfD (by rw [Fq.rgD n m h2,Fq.infD];exact h1),Fq.rgD n m h2,Fq.ngD n m h2,Fq.infD]
theorem infD9 (n:Bool):Ieee.double.read (Fq.wD n 9218868437227405312)=.infinity n:=by
 rw [Fq.read_inf Ieee.double _ Fq.binfD (by rw [Fq.rgD n 9218868437227405312 (by decide),Fq.infD]),Fq.ngD n 9218868437227405312 (by decide)]
theorem finD9 (n:Bool) (m:Nat) (h:m<9218868437227405312):∃ a e,Ieee.double.read (Fq.wD n m)=.number n a e∧(a=0 ↔ m=0):=by
 rw [Fq.read_fin _ _ (by rw [Fq.rgD n m (by omega),Fq.infD];exact h),Fq.ngD n m (by omega),Fq.rgD n m (by omega)]
 refine ⟨_,_,rfl, ?_⟩
 unfold Fq.mM
 rw [Fq.binD]
 split <;> omega
theorem wrI9 (s:Bool):Ieee.double.write (.infinity s)=Fq.wD s 9218868437227405312:=by unfold Ieee.Format.write Ieee.Format.word Fq.wD;rw [Fq.signD,Fq.infD]
def badP (m m':Nat):Prop:=9218868437227405312<m∨9218868437227405312<m'∨(m=9218868437227405312∧m'=0)∨(m=0∧m'=9218868437227405312)
theorem mul_bad (n n':Bool) (m m':Nat) (hm:m<9223372036854775808) (hm':m'<9223372036854775808) (h:badP m m'):FloatKind.f64.format.mul (Fq.wD n m) (Fq.wD n' m')=none:=by
 show Ieee.double.mul _ _=none
 unfold Ieee.Format.mul
 by_cases c1:9218868437227405312<m
 ·rw [nanD9 n m c1 hm];rfl
 ·by_cases c2:9218868437227405312<m'
  ·rw [nanD9 n' m' c2 hm']
   by_cases c3:m=9218868437227405312
   ·rw [c3,infD9];rfl
   ·obtain ⟨a,e,he,_⟩:=finD9 n m (by omega)
    rw [he];rfl
  ·rcases (h.resolve_left c1).resolve_left c2 with ⟨e1,e2⟩ | ⟨e1,e2⟩
   ·obtain ⟨a,e,he,hz⟩:=finD9 n' m' (by omega)
    rw [e1,infD9,he]
    unfold Ieee.Datum.product
    simp only
    rw [if_pos (hz.2 e2)];rfl
   ·obtain ⟨a,e,he,hz⟩:=finD9 n m (by omega)
    rw [e2,infD9,he]
    unfold Ieee.Datum.product
    simp only
    rw [if_pos (hz.2 e1)];rfl
theorem mul_inf (n n':Bool) (m m':Nat) (h:¬ badP m m') (hi:¬ (m<9218868437227405312∧m'<9218868437227405312)):FloatKind.f64.format.mul (Fq.wD n m) (Fq.wD n' m')=some (Fq.wD (n ^^ n') 9218868437227405312):=by
 unfold badP at h
 show Ieee.double.mul _ _=_
 unfold Ieee.Format.mul
 by_cases c1:m=9218868437227405312
 ·rw [c1,infD9]
  by_cases c2:m'=9218868437227405312
  ·rw [c2,infD9]
   exact congrArg some (wrI9 _)
  ·obtain ⟨a,e,he,hz⟩:=finD9 n' m' (by omega)
   rw [he]
   unfold Ieee.Datum.product
   simp only
   rw [if_neg (fun h0=>h (Or.inr (Or.inr (Or.inl ⟨c1,hz.1 h0⟩))))]
   exact congrArg some (wrI9 _)
 ·have c2:m'=9218868437227405312:=by omega
  obtain ⟨a,e,he,hz⟩:=finD9 n m (by omega)
  rw [c2,infD9,he]
  unfold Ieee.Datum.product
  simp only
  rw [if_neg (fun h0=>h (Or.inr (Or.inr (Or.inr ⟨hz.1 h0,c2⟩)))),show (n ^^ n')=(n' ^^ n) from by cases n <;> cases n' <;> rfl]
  exact congrArg some (wrI9 _)
theorem nan_cut9 (t:Nat):9218868437227405312<(t % 2*2 ^ 63+0x7ff0000000000000+1+t / 2 % (2 ^ 52 - 1)) % 9223372036854775808∧t % 2*2 ^ 63+0x7ff0000000000000+1+t / 2 % (2 ^ 52 - 1)<18446744073709551616:=by
 rw [show (2:Nat) ^ 63=9223372036854775808 from by decide,show (2:Nat) ^ 52 - 1=4503599627370495 from by decide]
 have h1:t % 2=0∨t % 2=1:=by omega
 have h2:t / 2 % 4503599627370495<4503599627370495:=Nat.mod_lt _ (by decide)
 generalize t / 2 % 4503599627370495=b at *
 rcases h1 with h | h <;> rw [h] <;> omega
theorem word_of (R:Nat) (h:R<18446744073709551616):∃ n m,m=R % 9223372036854775808∧R=Fq.wD n m:=by
 by_cases c:9223372036854775808≤R
 ·exact ⟨true,R % 9223372036854775808,rfl,by unfold Fq.wD;rw [if_pos rfl];omega⟩
 ·exact ⟨false,R % 9223372036854775808,rfl,by unfold Fq.wD;simp;omega⟩
theorem run_nan_mul (X Y:Nat) (h:FloatKind.f64.format.mul X Y=none) (w:World):∃ r,9218868437227405312<r % 9223372036854775808∧r<18446744073709551616∧(binOp .mul 27 (.float .f64 X) (.float .f64 Y)).run Tryz.prog w=.ok (.float .f64 r) w.drew:=by
 refine ⟨Question.cut (.nanBits .f64 X Y) _, ?_, ?_,by simp [binOp,Op.floatArith,h];rfl⟩
 ·simp only [Question.cut];exact (nan_cut9 _).1
 ·simp only [Question.cut];exact (nan_cut9 _).2
theorem odd_ (E:Int) (s o sz:Bool) (r ro K:Nat) (hK:53≤K) (hK2:K≤2096) (hv:E.natAbs<2 ^ K) (hr1:r<9218868437227405312) (hro:ro<9218868437227405312) (hr:r=rgU 53 (rU 0 53 E.natAbs 1)) (hs:s=(if E=0 then sz else decide (E<0))) (ho:Iv o ro=E - Iv s r) :
  ∃ (tn:Bool) (tr:Nat),tr<9218868437227405312∧(∀ w:World,Calls Tryz.prog 234 #[.float .f64 (Fq.wD s r),.float .f64 (Fq.wD o ro)] w fun e w'=>e=.returned (.float .f64 (Fq.wD tn tr))∧Kp w w')∧(Iv tn tr=E∨(¬ FL E∧∃ b k:Nat,k % 2=1∧4503599627370496*2 ^ b≤E.natAbs∧(Iv tn tr=((k*2 ^ b:Nat):Int)∨Iv tn tr = -((k*2 ^ b:Nat):Int))∧(E - Iv tn tr).natAbs<2 ^ b)):=by
 have o1:=Fq.eqzD o ro (by omega)
 by_cases hf:FL E
 ·obtain ⟨s9,r9,T9,_,_,n9,e9,e9',_⟩:=op_nr E sz K hK (by omega) hv
  rw [show s9=s from e9'.trans hs.symm,show r9=r from e9.trans hr.symm] at n9
  have hfix:=n9.fix hf
  have hz:ro=0:=by
   have h0:Iv o ro=0:=by omega
   have:=iv_abs o ro
   rw [h0] at this
   exact (vV_zero ro).1 this.symm
  refine ⟨s,r,hr1,fun w=>?_,Or.inl hfix⟩
  rw [show (ro == 0)=true from by simp [hz]] at o1
  obtain ⟨N,hN⟩:∃ N,N=Fq.wD s r:=⟨_,rfl⟩
  obtain ⟨O,hO⟩:∃ O,O=Fq.wD o ro:=⟨_,rfl⟩
  rw [← hO] at o1
  rw [← hN,← hO]
  clear hN hO hz hfix n9 e9 e9' hf hv hr hs ho hK hK2 hr1 hro
  go_enter Tryz.func234,Tryz.ntmps234
  go_wp2
  exact BR (v:=.float .f64 N) (by simp [results,Tryz.results234,go_sem]) rfl ⟨rfl,Kp.refl _⟩
 ·obtain ⟨tn,tr,b,k,t1,k1,k2,k3,k4,k5,S1,S2,S3⟩:=odd_words E s o sz r ro K hK hK2 hv hr hs ho hf
  refine ⟨tn,tr,t1,fun w=>?_,Or.inr ⟨hf,b,k,k1,k2, ?_,k4⟩⟩
  ·have hz:ro≠0:=fun h=>k5 (by rw [h];unfold Fq.plz;cases o <;> rfl)
   rw [show (ro == 0)=false from by simp [hz]] at o1
   have hz0:(0:Nat)=Fq.wD false 0:=rfl
   have hord:FloatKind.f64.format.order (Fq.wD o ro) 0=some (compare (Fq.plz o ro) 0):=by
    rw [hz0,Fq.ordD o false ro 0 (by omega) (by decide)];rfl
   have hup:=fun h=>Fq.up_d s r (by omega) h w
   have hdn:=fun h=>Fq.dn_d s r (by omega) h w
   have hpar:(Fq.wD s r) % 2=r % 2:=by unfold Fq.wD;split <;> omega
   obtain ⟨N,hN⟩:∃ N,N=Fq.wD s r:=⟨_,rfl⟩
   obtain ⟨O,hO⟩:∃ O,O=Fq.wD o ro:=⟨_,rfl⟩
   obtain ⟨G,hG⟩:∃ G,G=Fq.wD tn tr:=⟨_,rfl⟩
   obtain ⟨P,hP⟩:∃ P,P=Fq.plz o ro:=⟨_,rfl⟩
   have hfb:=Fq.fb64 N
   rw [← hN,← hG] at S1
   rw [← hG] at S2 S3
   rw [← hP] at S2 S3 hord k5
   rw [← hO] at o1 hord
   rw [← hN] at hup hdn hpar
   rw [← hN,← hO,← hG]
   clear hN hO hG hP hz hz0 hf hv hr hs ho hK hK2 hr1 hro k1 k2 k3 k4 t1
   by_cases c:r % 2=1
   ·have e:=S1 c
    have p1:((N:Int) % 2 == 1)=true:=by simp;omega
    have p2:((N:Int).tmod 2 == 1)=true:=by rw [Int.tmod_eq_emod_of_nonneg (by omega)];exact p1
    have p3:(N:Int).tmod 2=1:=by rw [Int.tmod_eq_emod_of_nonneg (by omega)];omega
    rw [← e]
    clear S1 S2 S3 hup hdn hord hpar c e k5
    go_enter Tryz.func234,Tryz.ntmps234
    go_wp2
    exact BR (v:=.float .f64 N) (by simp [results,Tryz.results234,go_sem]) rfl ⟨rfl,Kp.refl _⟩
   ·have p1:((N:Int) % 2 == 1)=false:=by simp;omega
    have p3:(N:Int).tmod 2=0:=by rw [Int.tmod_eq_emod_of_nonneg (by omega)];omega
    have p2:((N:Int).tmod 2 == 1)=false:=by rw [p3];rfl
    by_cases c2:P<0
    ·obtain ⟨a1,a2⟩:=S2 (by omega) c2
     have hc:=hdn a1
     rw [a2] at hc
     have o2:(FloatKind.f64.format.order O 0 == some .lt)=true:=by rw [hord,Int.compare_eq_lt.2 c2];rfl
     clear S1 S2 S3 hup hdn hord hpar c c2 a1 a2 k5
     go_enter Tryz.func234,Tryz.ntmps234
     go_wp2_with fail
     refine hc.mono ?_;rintro e w1 ⟨rfl,hk⟩
     clear hc
     go_wp2
     exact BR (v:=.float .f64 G) (by simp [results,Tryz.results234,go_sem]) rfl ⟨rfl,hk⟩
    ·obtain ⟨a1,a2⟩:=S3 (by omega) (by omega)
     have hc:=hup a1
     rw [a2] at hc
     have o2:(FloatKind.f64.format.order O 0 == some .lt)=false:=by rw [hord,Int.compare_eq_gt.2 (by omega)];rfl
     clear S1 S2 S3 hup hdn hord hpar c c2 a1 a2 k5
     go_enter Tryz.func234,Tryz.ntmps234
     go_wp2_with fail
     refine hc.mono ?_;rintro e w1 ⟨rfl,hk⟩
     clear hc
     go_wp2
     exact BR (v:=.float .f64 G) (by simp [results,Tryz.results234,go_sem]) rfl ⟨rfl,hk⟩
  ·rw [k3]
   by_cases c:E<0
   ·right;rw [if_pos c]
   ·left;rw [if_neg c]
theorem fused_ (n n' nz:Bool) (m m' mz:Nat) (c1:2580562586483294208≤m∧m≤6633802251116740608) (c2:2580562586483294208≤m'∧m'≤6633802251116740608) (cz:mz≤9110782046170513408) (L:Nat) (hL:L=1074) :
  ∃ (V:Int) (hn tn:Bool) (hr tr:Nat),V*((2 ^ L:Nat):Int)=Iv n m*Iv n' m'+Iv nz mz*((2 ^ L:Nat):Int)∧hr<9218868437227405312∧tr<9218868437227405312∧(∀ w:World,Calls Tryz.prog 199 #[.float .f64 (Fq.wD n m),.float .f64 (Fq.wD n' m'),.float .f64 (Fq.wD nz mz)] w fun e w'=>e=.returned (.tuple #[.float .f64 (Fq.wD hn hr),.float .f64 (Fq.wD tn tr)])∧Kp w w')∧∀ d,sumW d (Iv hn hr+Iv tn tr)=sumW d V:=by
 obtain ⟨e,e1,e2,u1,v1,v2⟩:=mild_unit n m c1.1 c1.2
 obtain ⟨e',e3,e4,u2,v3,v4⟩:=mild_unit n' m' c2.1 c2.2
 obtain ⟨V1,ps,os,pr,or_,K0,zV,t0,a0,b0,q0,q1,hex0,K1,K2,kV⟩:=twoProduct_ n n' m m' e e' (by omega) (by omega) (by omega) (by omega) (by omega) (by omega) u1 v1 v2 u2 v3 v4 L hL
 obtain ⟨K,hK⟩:∃ K:Nat,K=2075:=⟨_,rfl⟩
 have kz:(Iv nz mz).natAbs<2 ^ K:=by rw [iv_abs];exact vV_lt mz cz K hK
 -- the product is far from the ends
 have kV1:V1.natAbs<2 ^ (K - 2):=by
  have g1:=abs_v n n' m m' L V1 zV
  rw [← iv_abs n m,← iv_abs n' m'] at g1
  have g2:=Nat.mul_lt_mul'' v2 v4
  rw [← g1,sq_rearr,← pw53,← Nat.pow_add,← Nat.pow_add,← Nat.pow_add] at g2
  have g3:2 ^ (53+53+(e+e'))≤2 ^ (K - 2)*2 ^ L:=by
   rw [← Nat.pow_add];exact Nat.pow_le_pow_right (by decide) (by omega)
  exact Nat.lt_of_mul_lt_mul_right (Nat.lt_of_lt_of_le g2 g3)
 obtain ⟨s9,r9,T0,_,_,n0,x9,x9',l0⟩:=op_nr V1 (n ^^ n') (K - 2) (by omega) (by omega) kV1
 rw [show s9=ps from x9'.trans q1.symm,show r9=pr from x9.trans q0.symm] at n0 l0
 have ko:(Iv os or_).natAbs<2 ^ K:=by
  rw [hex0]
  have h:=(lt_sub9 kV1 l0 (by omega)).2
  rw [show K - 2+1+1=K from by omega] at h
  exact h
 -- the sum of z and the rest
 obtain ⟨ss,ls,sr,lr,t1,a1,b1,q2,q3,hex1⟩:=twoSum_ nz os mz or_ K (by omega) (by omega) (by omega) b0 kz ko _ rfl
 have kS1:=(lt_add9 kz ko (Nat.le_refl K)).1
 obtain ⟨s8,r8,T1,_,_,n1,x8,x8',l1⟩:=op_nr (Iv nz mz+Iv os or_) (nz && os) (K+1) (by omega) (by omega) kS1
 rw [show s8=ss from x8'.trans q3.symm,show r8=sr from x8.trans q2.symm] at n1 l1
 have kl:(Iv ls lr).natAbs<2 ^ (K+3):=by rw [hex1];exact (lt_sub9 kS1 l1 (by omega)).2
 have kP:(Iv ps pr).natAbs<2 ^ (K+2):=Nat.lt_of_lt_of_le l0 (Nat.pow_le_pow_right (by decide) (by omega))
 -- the head
 obtain ⟨hn,gs,hr,gr,t2,a2,b2,q4,q5,hex2⟩:=twoSum_ ps ss pr sr (K+2) (by omega) (by omega) a0 a1 kP l1 _ rfl
 have kS2:=(lt_add9 kP l1 (Nat.le_refl (K+2))).1
 obtain ⟨s7,r7,T2,_,_,n2,x7,x7',l2⟩:=op_nr (Iv ps pr+Iv ss sr) (ps && ss) (K+3) (by omega) (by omega) kS2
 rw [show s7=hn from x7'.trans q5.symm,show r7=hr from x7.trans q4.symm] at n2 l2
 have kg:(Iv gs gr).natAbs<2 ^ (K+5):=by rw [hex2];exact (lt_sub9 kS2 l2 (by omega)).2
 have kl5:(Iv ls lr).natAbs<2 ^ (K+5):=Nat.lt_of_lt_of_le kl (Nat.pow_le_pow_right (by decide) (by omega))
 -- the tail
 obtain ⟨fs,ns,fr,nr,t3,a3,b3,q6,q7,hex3⟩:=twoSum_ gs ls gr lr (K+5) (by omega) (by omega) b2 b1 kg kl5 _ rfl
 have kS3:=(lt_add9 kg kl5 (Nat.le_refl (K+5))).1
 obtain ⟨tn,tr,t4,h5,h6⟩:=odd_ (Iv gs gr+Iv ls lr) fs ns (gs && ls) fr nr (K+6) (by omega) (by omega) kS3 a3 b3 q6 q7 hex3
 have hV:V1+Iv nz mz=Iv hn hr+(Iv gs gr+Iv ls lr):=by omega
 refine ⟨V1+Iv nz mz,hn,tn,hr,tr,by rw [Int.add_mul,zV],a2,t4,fun w=>?_,fun d=>?_⟩
 ·clear h6 hV kS3 q6 q7 hex3 a3 b3 kl5 kg n2 l2 x7 x7' kS2 q4 q5 hex2 a2 b2 kP kl n1 l1 x8 x8' kS1 q2 q3 hex1 a1 b1 ko n0 l0 x9 x9' kV1 kz hK zV a0 b0 q0 q1 hex0 K1 K2 kV u1 v1 v2 u2 v3 v4 c1 c2 cz hL t4 e1 e2 e3 e4
  obtain ⟨X,hX⟩:∃ X,X=Fq.wD n m:=⟨_,rfl⟩
  obtain ⟨Y,hY⟩:∃ Y,Y=Fq.wD n' m':=⟨_,rfl⟩
  obtain ⟨Z,hZ⟩:∃ Z,Z=Fq.wD nz mz:=⟨_,rfl⟩
  obtain ⟨P,hP⟩:∃ P,P=Fq.wD ps pr:=⟨_,rfl⟩
  obtain ⟨O,hO⟩:∃ O,O=Fq.wD os or_:=⟨_,rfl⟩
  obtain ⟨S,hS⟩:∃ S,S=Fq.wD ss sr:=⟨_,rfl⟩
  obtain ⟨Q,hQ⟩:∃ Q,Q=Fq.wD ls lr:=⟨_,rfl⟩
  obtain ⟨H,hH⟩:∃ H,H=Fq.wD hn hr:=⟨_,rfl⟩
  obtain ⟨G,hG⟩:∃ G,G=Fq.wD gs gr:=⟨_,rfl⟩
  obtain ⟨D,hD⟩:∃ D,D=Fq.wD fs fr:=⟨_,rfl⟩
  obtain ⟨M,hM⟩:∃ M,M=Fq.wD ns nr:=⟨_,rfl⟩
  obtain ⟨U,hU⟩:∃ U,U=Fq.wD tn tr:=⟨_,rfl⟩
  rw [← hX,← hY,← hP,← hO] at t0
  rw [← hZ,← hO,← hS,← hQ] at t1
  rw [← hP,← hS,← hH,← hG] at t2
  rw [← hG,← hQ,← hD,← hM] at t3
  rw [← hD,← hM,← hU] at h5
  rw [← hX,← hY,← hZ,← hH,← hU]
  clear hX hY hZ hP hO hS hQ hH hG hD hM hU
  go_enter Tryz.func199,Tryz.ntmps199
  go_wp2_with fail
  refine SM (t0 _) ?_;clear t0
  go_wp2_with fail
  refine SM (t1 _) ?_;clear t1
  go_wp2_with fail
  refine SM (t2 _) ?_;clear t2
  go_wp2_with fail
  refine SM (t3 _) ?_;clear t3
  go_wp2_with fail
  refine (h5 _).mono ?_;rintro e w1 ⟨rfl,hk⟩;clear h5
  go_wp2
  exact BR (v:=.tuple #[.float .f64 H,.float .f64 U]) (by simp [results,Tryz.results199,go_sem]) rfl ⟨rfl,hk⟩
 ·rw [hV]
  rcases h6 with h | ⟨hnf,b,k,k1,k2,k3,k4⟩
  ·rw [h]
  ·obtain ⟨f1,f2⟩:=fuse_facts (iv_fl ps pr) (iv_fl ls lr) n1 hex1 n2 hex2 rfl hnf
   exact fuse_sum _ _ _ T2 b k n2.two n2.dvd f1 f2 k2 k1 k3 k4 d
theorem plusEqW_ (s t:Bool) (a b:Nat) (ea eb low:Int) (pa pb:Option Addr) (ca cb:Nat) (w:World) (ha:Arr w pa (dig a)) (hca:(dig a).length≤ca) (hb:Arr w pb (dig b)) (hcb:(dig b).length≤cb) (la:blen a≤106) (lb:blen b≤106) (ea1:-2148≤ea) (ea2:ea≤4096) (eb1:-2148≤eb) (eb2:eb≤4096) (hlow:low=min ea eb) (A' B':Nat) (hA:A'=a*2 ^ (ea - low).toNat) (hB':B'=b*2 ^ (eb - low).toNat) (hst:s=t) :
  Calls Tryz.prog 179 #[.agg #[.bool s,.slice pa (dig a).length ca,.int .i64 ea],.agg #[.bool t,.slice pb (dig b).length cb,.int .i64 eb]] w fun e w'=>∃ v,e=.returned (.agg #[.bool s,v,.int .i64 low])∧Ls w' v (dig (A'+B'))∧Kp w w':=by
 obtain ⟨La,hLa⟩:∃ La,La=(dig a).length:=⟨_,rfl⟩
 obtain ⟨Lb,hLb⟩:∃ Lb,Lb=(dig b).length:=⟨_,rfl⟩
 rw [← hLa,← hLb]
 obtain ⟨B,hB⟩:∃ B,B=w.heap.size:=⟨_,rfl⟩
 obtain ⟨w0,hw0⟩:∃ w0,w0=((w.alloc (.cells #[.bool s,.slice pa La ca,.int .i64 ea] 149)).alloc (.cells #[.bool t,.slice pb Lb cb,.int .i64 eb] 149)).alloc (.cells #[.bool false,.slice none 0 0,.int .i64 0] 149):=⟨_,rfl⟩
 have hk0:Kp w w0:=by rw [hw0];exact (((Kp.refl w).alloc _).alloc _).alloc _
 obtain ⟨x0,x1,x2,y0,y1,y2,z0,z1,z2,f0,f1,f2,i0,i1,i2⟩:w0.cell? ⟨B,0,none⟩=some (.bool s)∧w0.cell? ⟨B,1,none⟩=some (.slice pa La ca)∧w0.cell? ⟨B,2,none⟩=some (.int .i64 ea)∧w0.cell? ⟨B+1,0,none⟩=some (.bool t)∧w0.cell? ⟨B+1,1,none⟩=some (.slice pb Lb cb)∧w0.cell? ⟨B+1,2,none⟩=some (.int .i64 eb)∧w0.cell? ⟨B+2,0,none⟩=some (.bool false)∧w0.cell? ⟨B+2,1,none⟩=some (.slice none 0 0)∧w0.cell? ⟨B+2,2,none⟩=some (.int .i64 0)∧w0.frozen? ⟨B+2,0,none⟩=false∧w0.frozen? ⟨B+2,1,none⟩=false∧w0.frozen? ⟨B+2,2,none⟩=false∧w0.frozen? ⟨B,0,none⟩=false∧w0.frozen? ⟨B,1,none⟩=false∧w0.frozen? ⟨B,2,none⟩=false:=by rw [hw0,hB];simp [go_sem]
 have hlt:=cell_lt z0
 have hlt1:B<w0.heap.size:=cell_lt x0
 -- lengths
 obtain ⟨X4,hX4⟩:∃ X4:Nat,X4=8192:=⟨_,rfl⟩
 have bA:blen A'≤X4:=by
  rw [hA,blen_le_iff]
  have h1:2 ^ 106*2 ^ (ea - low).toNat≤2 ^ X4:=by rw [← Nat.pow_add];exact Nat.pow_le_pow_right (by omega) (by omega)
  have h2:a*2 ^ (ea - low).toNat<2 ^ 106*2 ^ (ea - low).toNat:=Nat.mul_lt_mul_of_pos_right ((blen_le_iff a 106).1 la) (Nat.two_pow_pos _)
  exact Nat.lt_of_lt_of_le h2 h1
 have bB:blen B'≤X4:=by
  rw [hB',blen_le_iff]
  have h1:2 ^ 106*2 ^ (eb - low).toNat≤2 ^ X4:=by rw [← Nat.pow_add];exact Nat.pow_le_pow_right (by omega) (by omega)
  have h2:b*2 ^ (eb - low).toNat<2 ^ 106*2 ^ (eb - low).toNat:=Nat.mul_lt_mul_of_pos_right ((blen_le_iff b 106).1 lb) (Nat.two_pow_pos _)
  exact Nat.lt_of_lt_of_le h2 h1
 have lAB:len32 (A'+B')≤16000:=dlen (A'+B') 16000 (by
  have h1:=(blen_le_iff A' X4).1 bA
  have h2:=(blen_le_iff B' X4).1 bB
  have h3:blen (A'+B')≤X4+1:=by rw [blen_le_iff,Nat.pow_succ];omega
  omega)
 have lA:len32 A'≤16000:=dlen A' 16000 (by omega)
 have lB:len32 B'≤16000:=dlen B' 16000 (by omega)
 have ba:blen a≤106:=la
 have bb:blen b≤106:=lb
 have la3:len32 a≤4:=dlen a 4 (by omega)
 have lb3:len32 b≤4:=dlen b 4 (by omega)
 have shl_:∀ (u:Nat) (e:Int) (U:Nat) (pu:Option Addr) (cu Lu:Nat) (w1:World),Arr w1 pu (dig u)→(dig u).length≤cu→Lu=(dig u).length→blen u≤106→len32 u≤4→0≤e→e≤8000→U=u*2 ^ e.toNat→Calls Tryz.prog 210 #[.slice pu Lu cu,.int .i64 e] w1 fun r w'=>∃ p c,r=.returned (.tuple #[.slice p (dig U).length c,.int .i64 0])∧Arr w' p (dig U)∧(dig U).length≤c∧(∀ g o,p=some ⟨g,o,none⟩→w1.heap.size≤g)∧Kp w1 w':=fun u e U pu cu Lu w1 au lu hl b1 b2 e1 e2 hU=>by
  subst hl
  have g:=nshl_ pu cu (dig u) w1 e au (Wd_dig u) (by change len32 u≤_;omega) lu
  rw [val_dig] at g
  have hs:shlN u e=(dig U,0):=by
   unfold shlN
   rw [if_neg (by omega),if_neg (by omega)]
   by_cases c0:u=0
   ·rw [if_pos c0,hU,c0,Nat.zero_mul,dig_zero]
   ·rw [if_neg c0,if_neg (by omega),hU]
  rw [hs] at g
  refine g.mono ?_
  rintro r w' ⟨v,h1,h2,h3⟩
  obtain ⟨p,c,rfl,h4,h5⟩:=h2.arr
  refine ⟨p,c,h1,h4,h5,fun g o hg=>?_,h3⟩
  rcases h2.2 with ⟨h',_⟩ | ⟨g',cap,cur,h6,h7,_⟩
  ·rw [hg] at h';cases h'
  ·rw [hg] at h6;cases h6;exact h7
 have q1:=shl_ a (ea - low) A' pa ca La w0 (ha.grown hk0) hca hLa ba la3 (by omega) (by omega) hA
 have q2:=fun w1 (k:Kp w0 w1)=>shl_ b (eb - low) B' pb cb Lb w1 (hb.grown (hk0.trans k)) hcb hLb bb lb3 (by omega) (by omega) hB'
 have g2:∀ w:World,(Builtin.min_ #[3,3] 3 #[.int .i64 ea,.int .i64 eb]).run Tryz.prog w=.ok (.int .i64 low) w:=fun w=>by
  rw [run_min_int2]
  congr 2
  split <;> omega
 have w1e:wrap64 (ea - low)=ea - low:=w64x _ (by omega) (by omega)
 have w2e:wrap64 (eb - low)=eb - low:=w64x _ (by omega) (by omega)
 have HW:Hid (w0=((w.alloc (.cells #[.bool s,.slice pa La ca,.int .i64 ea] 149)).alloc (.cells #[.bool t,.slice pb Lb cb,.int .i64 eb] 149)).alloc (.cells #[.bool false,.slice none 0 0,.int .i64 0] 149)∧B=w.heap.size∧Kp w w0∧len32 A'≤16000∧len32 B'≤16000∧len32 (A'+B')≤16000):=⟨hw0,hB,hk0,lA,lB,lAB⟩
 have hel:-2148≤low∧low≤4096∧ea - low≤8000∧eb - low≤8000∧0≤ea - low∧0≤eb - low:=by omega
 have HE:Hid (-2148≤low∧low≤4096∧ea - low≤8000∧eb - low≤8000∧0≤ea - low∧0≤eb - low):=hel
 clear hX4 hel shl_ ha hca hb hcb la lb hA hB' hLa hLb hw0 hB hk0 bA bB lA lB lAB ba bb la3 lb3 hlow
 subst hst
 go_enter Tryz.func179,Tryz.ntmps179
 go_wp2_with fail
 rw [← HW.out.2.1]
 try rw [← HW.out.1]
 refine q1.mono ?_;rintro e w1 ⟨p1,c1,rfl,a1,l1,n1,k1⟩
 obtain ⟨L1,hL1⟩:∃ L1,L1=(dig A').length:=⟨_,rfl⟩
 rw [← hL1]
 have HL1:Hid (L1=(dig A').length):=hL1
 clear hL1
 replace y0:=kkeep k1 y0
 replace y1:=kkeep k1 y1
 replace y2:=kkeep k1 y2
 replace x0:=kkeep k1 x0
 replace x1:=kkeep k1 x1
 replace x2:=kkeep k1 x2
 have q3:=q2 w1 k1
 clear q1 q2
 go_wp2_with fail
 refine q3.mono ?_;rintro e w2 ⟨p2,c2,rfl,a2,l2,n2,k2⟩
 obtain ⟨L2,hL2⟩:∃ L2,L2=(dig B').length:=⟨_,rfl⟩
 rw [← hL2]
 have k02:=k1.trans k2
 replace y0:=kkeep k2 y0
 replace y1:=kkeep k2 y1
 replace y2:=kkeep k2 y2
 replace x0:=kkeep k2 x0
 replace x1:=kkeep k2 x1
 replace x2:=kkeep k2 x2
 have HA2:Hid (Arr w2 p1 (dig A')∧L1=(dig A').length∧L1≤c1∧Arr w2 p2 (dig B')∧L2=(dig B').length∧L2≤c2∧Kp w0 w2∧(∀ g o,p1=some ⟨g,o,none⟩→g≠B)∧(∀ g o,p2=some ⟨g,o,none⟩→g≠B)):=⟨a1.grown k2,HL1.out,by rw [HL1.out];exact l1,a2,hL2,by rw [hL2];exact l2,k02,fun g o h=>by have:=n1 g o h;omega,fun g o h=>by have:=n2 g o h;have:=Below.size k1;omega⟩
 clear q3 a1 l1 a2 l2 k1 k2 k02 HL1 hL2 n1 n2
 have q4:Calls Tryz.prog 211 #[.slice p1 L1 c1,.slice p2 L2 c2] w2 fun e w'=>∃ v,e=.returned (.tuple #[v,.int .i64 0])∧Own w' w2.heap.size v (dig (A'+B'))∧Kp w2 w':=by
  obtain ⟨h1,h2,h3,h4,h5,h6,-,-,-⟩:=HA2.out
  obtain ⟨-,-,-,b1,b2,b3⟩:=HW.out
  have g:=nadd_ p1 p2 c1 c2 (dig A') (dig B') w2 h1 h4 (Wd_dig _) (Wd_dig _) (by change len32 _<_;omega) (by change len32 _<_;omega) (by rw [← h2];exact h3) (by rw [← h5];exact h6)
  rw [val_dig,val_dig] at g
  have hs:addN A' B'=(dig (A'+B'),0):=by
   unfold addN
   rw [if_neg (by omega),if_neg (by omega)]
  rw [hs,← h2,← h5] at g
  exact g
 go_wp2_with fail
 refine q4.mono ?_;rintro e w3 ⟨v,rfl,ho,k3⟩
 have KK:Kp w0 w2:=HA2.out.2.2.2.2.2.2.1
 replace x0:=kkeep k3 x0
 clear q4 x1 x2 y0 y1 y2 HA2
 have hls:=ho.ls
 obtain ⟨pv,cv,rfl,hav,hcv⟩:=ho.arr
 have k03:=KK.trans k3
 replace z0:=kkeep k03 z0
 replace z1:=kkeep k03 z1
 replace z2:=kkeep k03 z2
 replace f0:=(kfro k03 hlt).trans f0
 replace f1:=(kfro k03 hlt).trans f1
 replace f2:=(kfro k03 hlt).trans f2
 obtain ⟨LV,hLV⟩:∃ LV,LV=(dig (A'+B')).length:=⟨_,rfl⟩
 rw [← hLV]
 have HO:Hid (Own w3 w2.heap.size (.slice pv (dig (A'+B')).length cv) (dig (A'+B'))∧LV=(dig (A'+B')).length∧Kp w0 w3∧B+2<w2.heap.size):=⟨ho,hLV,k03,by have:=Below.size KK;omega⟩
 clear ho hls hav hcv k3 k03 hLV KK
 go_wp2
 obtain ⟨ho,hL,k03,hBl⟩:=HO.out
 have kb:Kb (B+2) w3 (((w3.setCell ⟨B+2,0,none⟩ (.bool s)).setCell ⟨B+2,1,none⟩ (.slice pv LV cv)).setCell ⟨B+2,2,none⟩ (.int .i64 low)):=(((Kb.refl (B+2) w3).setCell 0 _).setCell 1 _).setCell 2 _
 have ho2:=ho.kb kb (fun g hg=>by have:=ho.lt g hg;omega)
 have hls:=ho2.ls
 rw [← hL] at hls
 have hkw:Kp w (((w3.setCell ⟨B+2,0,none⟩ (.bool s)).setCell ⟨B+2,1,none⟩ (.slice pv LV cv)).setCell ⟨B+2,2,none⟩ (.int .i64 low)):=kb.kp (HW.out.2.2.1.trans k03) (by rw [HW.out.2.1];omega)
 exact BR (v:=.agg #[.bool s,.slice pv LV cv,.int .i64 low]) (by simp [results,Tryz.results179,go_sem,z0,z1,z2]) rfl ⟨_,rfl,hls,hkw⟩
theorem plusGeW_ (s t:Bool) (a b:Nat) (ea eb low:Int) (pa pb:Option Addr) (ca cb:Nat) (w:World) (ha:Arr w pa (dig a)) (hca:(dig a).length≤ca) (hb:Arr w pb (dig b)) (hcb:(dig b).length≤cb) (la:blen a≤106) (lb:blen b≤106) (ea1:-2148≤ea) (ea2:ea≤4096) (eb1:-2148≤eb) (eb2:eb≤4096) (hlow:low=min ea eb) (A' B':Nat) (hA:A'=a*2 ^ (ea - low).toNat) (hB':B'=b*2 ^ (eb - low).toNat) (hst:s≠t) (hge:B'≤A') :
  Calls Tryz.prog 179 #[.agg #[.bool s,.slice pa (dig a).length ca,.int .i64 ea],.agg #[.bool t,.slice pb (dig b).length cb,.int .i64 eb]] w fun e w'=>∃ v,e=.returned (.agg #[.bool s,v,.int .i64 low])∧Ls w' v (dig (A' - B'))∧Kp w w':=by
 obtain ⟨La,hLa⟩:∃ La,La=(dig a).length:=⟨_,rfl⟩
 obtain ⟨Lb,hLb⟩:∃ Lb,Lb=(dig b).length:=⟨_,rfl⟩
 rw [← hLa,← hLb]
 obtain ⟨B,hB⟩:∃ B,B=w.heap.size:=⟨_,rfl⟩
 obtain ⟨w0,hw0⟩:∃ w0,w0=((w.alloc (.cells #[.bool s,.slice pa La ca,.int .i64 ea] 149)).alloc (.cells #[.bool t,.slice pb Lb cb,.int .i64 eb] 149)).alloc (.cells #[.bool false,.slice none 0 0,.int .i64 0] 149):=⟨_,rfl⟩
 have hk0:Kp w w0:=by rw [hw0];exact (((Kp.refl w).alloc _).alloc _).alloc _
 obtain ⟨x0,x1,x2,y0,y1,y2,z0,z1,z2,f0,f1,f2,i0,i1,i2⟩:w0.cell? ⟨B,0,none⟩=some (.bool s)∧w0.cell? ⟨B,1,none⟩=some (.slice pa La ca)∧w0.cell? ⟨B,2,none⟩=some (.int .i64 ea)∧w0.cell? ⟨B+1,0,none⟩=some (.bool t)∧w0.cell? ⟨B+1,1,none⟩=some (.slice pb Lb cb)∧w0.cell? ⟨B+1,2,none⟩=some (.int .i64 eb)∧w0.cell? ⟨B+2,0,none⟩=some (.bool false)∧w0.cell? ⟨B+2,1,none⟩=some (.slice none 0 0)∧w0.cell? ⟨B+2,2,none⟩=some (.int .i64 0)∧w0.frozen? ⟨B+2,0,none⟩=false∧w0.frozen? ⟨B+2,1,none⟩=false∧w0.frozen? ⟨B+2,2,none⟩=false∧w0.frozen? ⟨B,0,none⟩=false∧w0.frozen? ⟨B,1,none⟩=false∧w0.frozen? ⟨B,2,none⟩=false:=by rw [hw0,hB];simp [go_sem]
 have hlt:=cell_lt z0
 have hlt1:B<w0.heap.size:=cell_lt x0
 -- lengths
 obtain ⟨X4,hX4⟩:∃ X4:Nat,X4=8192:=⟨_,rfl⟩
 have bA:blen A'≤X4:=by
  rw [hA,blen_le_iff]
  have h1:2 ^ 106*2 ^ (ea - low).toNat≤2 ^ X4:=by rw [← Nat.pow_add];exact Nat.pow_le_pow_right (by omega) (by omega)
  have h2:a*2 ^ (ea - low).toNat<2 ^ 106*2 ^ (ea - low).toNat:=Nat.mul_lt_mul_of_pos_right ((blen_le_iff a 106).1 la) (Nat.two_pow_pos _)
  exact Nat.lt_of_lt_of_le h2 h1
 have bB:blen B'≤X4:=by
  rw [hB',blen_le_iff]
  have h1:2 ^ 106*2 ^ (eb - low).toNat≤2 ^ X4:=by rw [← Nat.pow_add];exact Nat.pow_le_pow_right (by omega) (by omega)
  have h2:b*2 ^ (eb - low).toNat<2 ^ 106*2 ^ (eb - low).toNat:=Nat.mul_lt_mul_of_pos_right ((blen_le_iff b 106).1 lb) (Nat.two_pow_pos _)
  exact Nat.lt_of_lt_of_le h2 h1
 have lAB:len32 (A'+B')≤16000:=dlen (A'+B') 16000 (by
  have h1:=(blen_le_iff A' X4).1 bA
  have h2:=(blen_le_iff B' X4).1 bB
  have h3:blen (A'+B')≤X4+1:=by rw [blen_le_iff,Nat.pow_succ];omega
  omega)
 have lA:len32 A'≤16000:=dlen A' 16000 (by omega)
 have lB:len32 B'≤16000:=dlen B' 16000 (by omega)
 have ba:blen a≤106:=la
 have bb:blen b≤106:=lb
 have la3:len32 a≤4:=dlen a 4 (by omega)
 have lb3:len32 b≤4:=dlen b 4 (by omega)
 have shl_:∀ (u:Nat) (e:Int) (U:Nat) (pu:Option Addr) (cu Lu:Nat) (w1:World),Arr w1 pu (dig u)→(dig u).length≤cu→Lu=(dig u).length→blen u≤106→len32 u≤4→0≤e→e≤8000→U=u*2 ^ e.toNat→Calls Tryz.prog 210 #[.slice pu Lu cu,.int .i64 e] w1 fun r w'=>∃ p c,r=.returned (.tuple #[.slice p (dig U).length c,.int .i64 0])∧Arr w' p (dig U)∧(dig U).length≤c∧(∀ g o,p=some ⟨g,o,none⟩→w1.heap.size≤g)∧Kp w1 w':=fun u e U pu cu Lu w1 au lu hl b1 b2 e1 e2 hU=>by
  subst hl
  have g:=nshl_ pu cu (dig u) w1 e au (Wd_dig u) (by change len32 u≤_;omega) lu
  rw [val_dig] at g
  have hs:shlN u e=(dig U,0):=by
   unfold shlN
   rw [if_neg (by omega),if_neg (by omega)]
   by_cases c0:u=0
   ·rw [if_pos c0,hU,c0,Nat.zero_mul,dig_zero]
   ·rw [if_neg c0,if_neg (by omega),hU]
  rw [hs] at g
  refine g.mono ?_
  rintro r w' ⟨v,h1,h2,h3⟩
  obtain ⟨p,c,rfl,h4,h5⟩:=h2.arr
  refine ⟨p,c,h1,h4,h5,fun g o hg=>?_,h3⟩
  rcases h2.2 with ⟨h',_⟩ | ⟨g',cap,cur,h6,h7,_⟩
  ·rw [hg] at h';cases h'
  ·rw [hg] at h6;cases h6;exact h7
 have q1:=shl_ a (ea - low) A' pa ca La w0 (ha.grown hk0) hca hLa ba la3 (by omega) (by omega) hA
 have q2:=fun w1 (k:Kp w0 w1)=>shl_ b (eb - low) B' pb cb Lb w1 (hb.grown (hk0.trans k)) hcb hLb bb lb3 (by omega) (by omega) hB'
 have g2:∀ w:World,(Builtin.min_ #[3,3] 3 #[.int .i64 ea,.int .i64 eb]).run Tryz.prog w=.ok (.int .i64 low) w:=fun w=>by
  rw [run_min_int2]
  congr 2
  split <;> omega
 have w1e:wrap64 (ea - low)=ea - low:=w64x _ (by omega) (by omega)
 have w2e:wrap64 (eb - low)=eb - low:=w64x _ (by omega) (by omega)
 have HW:Hid (w0=((w.alloc (.cells #[.bool s,.slice pa La ca,.int .i64 ea] 149)).alloc (.cells #[.bool t,.slice pb Lb cb,.int .i64 eb] 149)).alloc (.cells #[.bool false,.slice none 0 0,.int .i64 0] 149)∧B=w.heap.size∧Kp w w0∧len32 A'≤16000∧len32 B'≤16000∧len32 (A'+B')≤16000):=⟨hw0,hB,hk0,lA,lB,lAB⟩
 have hel:-2148≤low∧low≤4096∧ea - low≤8000∧eb - low≤8000∧0≤ea - low∧0≤eb - low:=by omega
 have HE:Hid (-2148≤low∧low≤4096∧ea - low≤8000∧eb - low≤8000∧0≤ea - low∧0≤eb - low):=hel
 clear hX4 hel shl_ ha hca hb hcb la lb hA hB' hLa hLb hw0 hB hk0 bA bB lA lB lAB ba bb la3 lb3 hlow
 have est:(s == t)=false:=by cases s <;> cases t <;> simp_all
 have est':decide (s=t)=false:=by simp [hst]
 clear hst
 have HG:Hid (B'≤A'):=hge
 clear hge
 go_enter Tryz.func179,Tryz.ntmps179
 go_wp2_with fail
 rw [← HW.out.2.1]
 try rw [← HW.out.1]
 refine q1.mono ?_;rintro e w1 ⟨p1,c1,rfl,a1,l1,n1,k1⟩
 obtain ⟨L1,hL1⟩:∃ L1,L1=(dig A').length:=⟨_,rfl⟩
 rw [← hL1]
 have HL1:Hid (L1=(dig A').length):=hL1
 clear hL1
 replace y0:=kkeep k1 y0
 replace y1:=kkeep k1 y1
 replace y2:=kkeep k1 y2
 replace x0:=kkeep k1 x0
 replace x1:=kkeep k1 x1
 replace x2:=kkeep k1 x2
 have q3:=q2 w1 k1
 clear q1 q2
 go_wp2_with fail
 refine q3.mono ?_;rintro e w2 ⟨p2,c2,rfl,a2,l2,n2,k2⟩
 obtain ⟨L2,hL2⟩:∃ L2,L2=(dig B').length:=⟨_,rfl⟩
 rw [← hL2]
 have k02:=k1.trans k2
 replace y0:=kkeep k2 y0
 replace y1:=kkeep k2 y1
 replace y2:=kkeep k2 y2
 replace x0:=kkeep k2 x0
 replace x1:=kkeep k2 x1
 replace x2:=kkeep k2 x2
 have HA2:Hid (Arr w2 p1 (dig A')∧L1=(dig A').length∧L1≤c1∧Arr w2 p2 (dig B')∧L2=(dig B').length∧L2≤c2∧Kp w0 w2∧(∀ g o,p1=some ⟨g,o,none⟩→g≠B)∧(∀ g o,p2=some ⟨g,o,none⟩→g≠B)):=⟨a1.grown k2,HL1.out,by rw [HL1.out];exact l1,a2,hL2,by rw [hL2];exact l2,k02,fun g o h=>by have:=n1 g o h;omega,fun g o h=>by have:=n2 g o h;have:=Below.size k1;omega⟩
 clear q3 a1 l1 a2 l2 k1 k2 k02 HL1 hL2 n1 n2
 have q4:Calls Tryz.prog 212 #[.slice p1 L1 c1,.slice p2 L2 c2] w2 fun e w'=>e=.returned (.int .i64 (cmpN A' B'))∧Kp w2 w':=by
  obtain ⟨h1,h2,h3,h4,h5,h6,-,-,-⟩:=HA2.out
  obtain ⟨-,-,-,b1,b2,b3⟩:=HW.out
  have g:=ncmp_ p1 p2 c1 c2 (dig A') (dig B') w2 h1 h4 (Wd_dig _) (Wd_dig _) (by change len32 _≤_;omega) (by change len32 _≤_;omega) (by rw [← h2];exact h3) (by rw [← h5];exact h6)
  rw [val_dig,val_dig,← h2,← h5] at g
  exact g
 obtain ⟨cv9,hcv9⟩:∃ cv9,cv9=cmpN A' B':=⟨_,rfl⟩
 rw [← hcv9] at q4
 have tcv:¬ cv9<0:=by
  rw [hcv9];unfold cmpN;have:=HG.out;rw [if_neg (by omega)];split <;> omega
 clear hcv9
 go_wp2_with fail
 refine q4.mono ?_;rintro e w3 ⟨rfl,k3⟩
 clear q4
 replace x0:=kkeep k3 x0
 replace x1:=kkeep k3 x1
 replace x2:=kkeep k3 x2
 replace y0:=kkeep k3 y0
 replace y1:=kkeep k3 y1
 replace y2:=kkeep k3 y2
 have q5:Calls Tryz.prog 213 #[.slice p1 L1 c1,.slice p2 L2 c2] w3 fun e w'=>∃ v,e=.returned (.tuple #[v,.int .i64 0])∧Own w' w3.heap.size v (dig (A' - B'))∧Kp w3 w':=by
  obtain ⟨h1,h2,h3,h4,h5,h6,-,h8,h9⟩:=HA2.out
  obtain ⟨-,-,-,b1,b2,b3⟩:=HW.out
  have g:=nsub_ p1 p2 c1 c2 (dig A') (dig B') w3 (h1.grown k3) (h4.grown k3) (Wd_dig _) (Wd_dig _) (by change len32 _<_;omega) (by change len32 _<_;omega) (by rw [← h2];exact h3) (by rw [← h5];exact h6)
  rw [val_dig,val_dig] at g
  have hs:subN A' B'=(dig (A' - B'),0):=by
   unfold subN
   rw [if_neg (by have:=HG.out;omega),if_neg (by omega)]
  rw [hs] at g
  rw [h2,h5]
  exact g
 go_wp2_with fail
 refine q5.mono ?_;rintro e w4 ⟨v,rfl,ho,k4⟩
 have KK:Kp w0 w3:=HA2.out.2.2.2.2.2.2.1.trans k3
 replace x0:=kkeep k4 x0
 clear q5 x1 x2 y0 y1 y2 HA2 k3 tcv
 have hls:=ho.ls
 obtain ⟨pv,cv,rfl,hav,hcv⟩:=ho.arr
 have k04:=KK.trans k4
 replace z0:=kkeep k04 z0
 replace z1:=kkeep k04 z1
 replace z2:=kkeep k04 z2
 replace f0:=(kfro k04 hlt).trans f0
 replace f1:=(kfro k04 hlt).trans f1
 replace f2:=(kfro k04 hlt).trans f2
 obtain ⟨LV,hLV⟩:∃ LV,LV=(dig (A' - B')).length:=⟨_,rfl⟩
 rw [← hLV]
 have HO:Hid (Own w4 w3.heap.size (.slice pv (dig (A' - B')).length cv) (dig (A' - B'))∧LV=(dig (A' - B')).length∧Kp w0 w4∧B+2<w3.heap.size):=⟨ho,hLV,k04,by have:=Below.size KK;omega⟩
 clear ho hls hav hcv k4 k04 hLV KK
 go_wp2
 obtain ⟨ho,hL,k04,hBl⟩:=HO.out
 have kb:Kb (B+2) w4 (((w4.setCell ⟨B+2,0,none⟩ (.bool s)).setCell ⟨B+2,1,none⟩ (.slice pv LV cv)).setCell ⟨B+2,2,none⟩ (.int .i64 low)):=(((Kb.refl (B+2) w4).setCell 0 _).setCell 1 _).setCell 2 _
 have ho2:=ho.kb kb (fun g hg=>by have:=ho.lt g hg;omega)
 have hls:=ho2.ls
 rw [← hL] at hls
 have hkw:Kp w (((w4.setCell ⟨B+2,0,none⟩ (.bool s)).setCell ⟨B+2,1,none⟩ (.slice pv LV cv)).setCell ⟨B+2,2,none⟩ (.int .i64 low)):=kb.kp (HW.out.2.2.1.trans k04) (by rw [HW.out.2.1];omega)
 exact BR (v:=.agg #[.bool s,.slice pv LV cv,.int .i64 low]) (by simp [results,Tryz.results179,go_sem,z0,z1,z2]) rfl ⟨_,rfl,hls,hkw⟩
theorem plusLtW_ (s t:Bool) (a b:Nat) (ea eb low:Int) (pa pb:Option Addr) (ca cb:Nat) (w:World) (ha:Arr w pa (dig a)) (hca:(dig a).length≤ca) (hb:Arr w pb (dig b)) (hcb:(dig b).length≤cb) (la:blen a≤106) (lb:blen b≤106) (ea1:-2148≤ea) (ea2:ea≤4096) (eb1:-2148≤eb) (eb2:eb≤4096) (hlow:low=min ea eb) (A' B':Nat) (hA:A'=a*2 ^ (ea - low).toNat) (hB':B'=b*2 ^ (eb - low).toNat) (hst:s≠t) (hge:A'<B') :
  Calls Tryz.prog 179 #[.agg #[.bool s,.slice pa (dig a).length ca,.int .i64 ea],.agg #[.bool t,.slice pb (dig b).length cb,.int .i64 eb]] w fun e w'=>∃ v,e=.returned (.agg #[.bool t,v,.int .i64 low])∧Ls w' v (dig (B' - A'))∧Kp w w':=by
 obtain ⟨La,hLa⟩:∃ La,La=(dig a).length:=⟨_,rfl⟩
 obtain ⟨Lb,hLb⟩:∃ Lb,Lb=(dig b).length:=⟨_,rfl⟩
 rw [← hLa,← hLb]
 obtain ⟨B,hB⟩:∃ B,B=w.heap.size:=⟨_,rfl⟩
 obtain ⟨w0,hw0⟩:∃ w0,w0=((w.alloc (.cells #[.bool s,.slice pa La ca,.int .i64 ea] 149)).alloc (.cells #[.bool t,.slice pb Lb cb,.int .i64 eb] 149)).alloc (.cells #[.bool false,.slice none 0 0,.int .i64 0] 149):=⟨_,rfl⟩
 have hk0:Kp w w0:=by rw [hw0];exact (((Kp.refl w).alloc _).alloc _).alloc _
 obtain ⟨x0,x1,x2,y0,y1,y2,z0,z1,z2,f0,f1,f2,i0,i1,i2⟩:w0.cell? ⟨B,0,none⟩=some (.bool s)∧w0.cell? ⟨B,1,none⟩=some (.slice pa La ca)∧w0.cell? ⟨B,2,none⟩=some (.int .i64 ea)∧w0.cell? ⟨B+1,0,none⟩=some (.bool t)∧w0.cell? ⟨B+1,1,none⟩=some (.slice pb Lb cb)∧w0.cell? ⟨B+1,2,none⟩=some (.int .i64 eb)∧w0.cell? ⟨B+2,0,none⟩=some (.bool false)∧w0.cell? ⟨B+2,1,none⟩=some (.slice none 0 0)∧w0.cell? ⟨B+2,2,none⟩=some (.int .i64 0)∧w0.frozen? ⟨B+2,0,none⟩=false∧w0.frozen? ⟨B+2,1,none⟩=false∧w0.frozen? ⟨B+2,2,none⟩=false∧w0.frozen? ⟨B,0,none⟩=false∧w0.frozen? ⟨B,1,none⟩=false∧w0.frozen? ⟨B,2,none⟩=false:=by rw [hw0,hB];simp [go_sem]
 have hlt:=cell_lt z0
 have hlt1:B<w0.heap.size:=cell_lt x0
 -- lengths
 obtain ⟨X4,hX4⟩:∃ X4:Nat,X4=8192:=⟨_,rfl⟩
 have bA:blen A'≤X4:=by
  rw [hA,blen_le_iff]
  have h1:2 ^ 106*2 ^ (ea - low).toNat≤2 ^ X4:=by rw [← Nat.pow_add];exact Nat.pow_le_pow_right (by omega) (by omega)
  have h2:a*2 ^ (ea - low).toNat<2 ^ 106*2 ^ (ea - low).toNat:=Nat.mul_lt_mul_of_pos_right ((blen_le_iff a 106).1 la) (Nat.two_pow_pos _)
  exact Nat.lt_of_lt_of_le h2 h1
 have bB:blen B'≤X4:=by
  rw [hB',blen_le_iff]
  have h1:2 ^ 106*2 ^ (eb - low).toNat≤2 ^ X4:=by rw [← Nat.pow_add];exact Nat.pow_le_pow_right (by omega) (by omega)
  have h2:b*2 ^ (eb - low).toNat<2 ^ 106*2 ^ (eb - low).toNat:=Nat.mul_lt_mul_of_pos_right ((blen_le_iff b 106).1 lb) (Nat.two_pow_pos _)
  exact Nat.lt_of_lt_of_le h2 h1
 have lAB:len32 (A'+B')≤16000:=dlen (A'+B') 16000 (by
  have h1:=(blen_le_iff A' X4).1 bA
  have h2:=(blen_le_iff B' X4).1 bB
  have h3:blen (A'+B')≤X4+1:=by rw [blen_le_iff,Nat.pow_succ];omega
  omega)
 have lA:len32 A'≤16000:=dlen A' 16000 (by omega)
 have lB:len32 B'≤16000:=dlen B' 16000 (by omega)
 have ba:blen a≤106:=la
 have bb:blen b≤106:=lb
 have la3:len32 a≤4:=dlen a 4 (by omega)
 have lb3:len32 b≤4:=dlen b 4 (by omega)
 have shl_:∀ (u:Nat) (e:Int) (U:Nat) (pu:Option Addr) (cu Lu:Nat) (w1:World),Arr w1 pu (dig u)→(dig u).length≤cu→Lu=(dig u).length→blen u≤106→len32 u≤4→0≤e→e≤8000→U=u*2 ^ e.toNat→Calls Tryz.prog 210 #[.slice pu Lu cu,.int .i64 e] w1 fun r w'=>∃ p c,r=.returned (.tuple #[.slice p (dig U).length c,.int .i64 0])∧Arr w' p (dig U)∧(dig U).length≤c∧(∀ g o,p=some ⟨g,o,none⟩→w1.heap.size≤g)∧Kp w1 w':=fun u e U pu cu Lu w1 au lu hl b1 b2 e1 e2 hU=>by
  subst hl
  have g:=nshl_ pu cu (dig u) w1 e au (Wd_dig u) (by change len32 u≤_;omega) lu
  rw [val_dig] at g
  have hs:shlN u e=(dig U,0):=by
   unfold shlN
   rw [if_neg (by omega),if_neg (by omega)]
   by_cases c0:u=0
   ·rw [if_pos c0,hU,c0,Nat.zero_mul,dig_zero]
   ·rw [if_neg c0,if_neg (by omega),hU]
  rw [hs] at g
  refine g.mono ?_
  rintro r w' ⟨v,h1,h2,h3⟩
  obtain ⟨p,c,rfl,h4,h5⟩:=h2.arr
  refine ⟨p,c,h1,h4,h5,fun g o hg=>?_,h3⟩
  rcases h2.2 with ⟨h',_⟩ | ⟨g',cap,cur,h6,h7,_⟩
  ·rw [hg] at h';cases h'
  ·rw [hg] at h6;cases h6;exact h7
 have q1:=shl_ a (ea - low) A' pa ca La w0 (ha.grown hk0) hca hLa ba la3 (by omega) (by omega) hA
 have q2:=fun w1 (k:Kp w0 w1)=>shl_ b (eb - low) B' pb cb Lb w1 (hb.grown (hk0.trans k)) hcb hLb bb lb3 (by omega) (by omega) hB'
 have g2:∀ w:World,(Builtin.min_ #[3,3] 3 #[.int .i64 ea,.int .i64 eb]).run Tryz.prog w=.ok (.int .i64 low) w:=fun w=>by
  rw [run_min_int2]
  congr 2
  split <;> omega
 have w1e:wrap64 (ea - low)=ea - low:=w64x _ (by omega) (by omega)
 have w2e:wrap64 (eb - low)=eb - low:=w64x _ (by omega) (by omega)
 have HW:Hid (w0=((w.alloc (.cells #[.bool s,.slice pa La ca,.int .i64 ea] 149)).alloc (.cells #[.bool t,.slice pb Lb cb,.int .i64 eb] 149)).alloc (.cells #[.bool false,.slice none 0 0,.int .i64 0] 149)∧B=w.heap.size∧Kp w w0∧len32 A'≤16000∧len32 B'≤16000∧len32 (A'+B')≤16000):=⟨hw0,hB,hk0,lA,lB,lAB⟩
 have hel:-2148≤low∧low≤4096∧ea - low≤8000∧eb - low≤8000∧0≤ea - low∧0≤eb - low:=by omega
 have HE:Hid (-2148≤low∧low≤4096∧ea - low≤8000∧eb - low≤8000∧0≤ea - low∧0≤eb - low):=hel
 clear hX4 hel shl_ ha hca hb hcb la lb hA hB' hLa hLb hw0 hB hk0 bA bB lA lB lAB ba bb la3 lb3 hlow
 have est:(s == t)=false:=by cases s <;> cases t <;> simp_all
 have est':decide (s=t)=false:=by simp [hst]
 clear hst
 have HG:Hid (A'<B'):=hge
 clear hge
 go_enter Tryz.func179,Tryz.ntmps179
 go_wp2_with fail
 rw [← HW.out.2.1]
 try rw [← HW.out.1]
 refine q1.mono ?_;rintro e w1 ⟨p1,c1,rfl,a1,l1,n1,k1⟩
 obtain ⟨L1,hL1⟩:∃ L1,L1=(dig A').length:=⟨_,rfl⟩
 rw [← hL1]
 have HL1:Hid (L1=(dig A').length):=hL1
 clear hL1
 replace y0:=kkeep k1 y0
 replace y1:=kkeep k1 y1
 replace y2:=kkeep k1 y2
 replace x0:=kkeep k1 x0
 replace x1:=kkeep k1 x1
 replace x2:=kkeep k1 x2
 have q3:=q2 w1 k1
 clear q1 q2
 go_wp2_with fail
 refine q3.mono ?_;rintro e w2 ⟨p2,c2,rfl,a2,l2,n2,k2⟩
 obtain ⟨L2,hL2⟩:∃ L2,L2=(dig B').length:=⟨_,rfl⟩
 rw [← hL2]
 have k02:=k1.trans k2
 replace y0:=kkeep k2 y0
 replace y1:=kkeep k2 y1
 replace y2:=kkeep k2 y2
 replace x0:=kkeep k2 x0
 replace x1:=kkeep k2 x1
 replace x2:=kkeep k2 x2
 have HA2:Hid (Arr w2 p1 (dig A')∧L1=(dig A').length∧L1≤c1∧Arr w2 p2 (dig B')∧L2=(dig B').length∧L2≤c2∧Kp w0 w2∧(∀ g o,p1=some ⟨g,o,none⟩→g≠B)∧(∀ g o,p2=some ⟨g,o,none⟩→g≠B)):=⟨a1.grown k2,HL1.out,by rw [HL1.out];exact l1,a2,hL2,by rw [hL2];exact l2,k02,fun g o h=>by have:=n1 g o h;omega,fun g o h=>by have:=n2 g o h;have:=Below.size k1;omega⟩
 clear q3 a1 l1 a2 l2 k1 k2 k02 HL1 hL2 n1 n2
 have q4:Calls Tryz.prog 212 #[.slice p1 L1 c1,.slice p2 L2 c2] w2 fun e w'=>e=.returned (.int .i64 (cmpN A' B'))∧Kp w2 w':=by
  obtain ⟨h1,h2,h3,h4,h5,h6,-,-,-⟩:=HA2.out
  obtain ⟨-,-,-,b1,b2,b3⟩:=HW.out
  have g:=ncmp_ p1 p2 c1 c2 (dig A') (dig B') w2 h1 h4 (Wd_dig _) (Wd_dig _) (by change len32 _≤_;omega) (by change len32 _≤_;omega) (by rw [← h2];exact h3) (by rw [← h5];exact h6)
  rw [val_dig,val_dig,← h2,← h5] at g
  exact g
 obtain ⟨cv9,hcv9⟩:∃ cv9,cv9=cmpN A' B':=⟨_,rfl⟩
 rw [← hcv9] at q4
 have tcv:cv9<0:=by
  rw [hcv9];unfold cmpN;rw [if_pos HG.out];decide
 clear hcv9
 go_wp2_with fail
 refine q4.mono ?_;rintro e w3 ⟨rfl,k3⟩
 clear q4
 replace x0:=kkeep k3 x0
 replace x1:=kkeep k3 x1
 replace x2:=kkeep k3 x2
 replace y0:=kkeep k3 y0
 replace y1:=kkeep k3 y1
 replace y2:=kkeep k3 y2
 have KK3:Kp w0 w3:=HA2.out.2.2.2.2.2.2.1.trans k3
 replace i0:=(kfro KK3 hlt1).trans i0
 replace i1:=(kfro KK3 hlt1).trans i1
 replace i2:=(kfro KK3 hlt1).trans i2
 go_upto_region 8 with fail
 go_region
 all_goals go_wp2_with fail
 obtain ⟨wc,hwc⟩:∃ wc,wc=((w3.setCell ⟨B,0,none⟩ (.bool t)).setCell ⟨B,1,none⟩ (.slice pb Lb cb)).setCell ⟨B,2,none⟩ (.int .i64 eb):=⟨_,rfl⟩
 obtain ⟨w4,hw4⟩:∃ w4,w4=wc.drew:=⟨_,rfl⟩
 rw [← hwc,← hw4]
 have kb4:Kb B w3 wc:=by rw [hwc];exact (((Kb.refl B w3).setCell 0 _).setCell 1 _).setCell 2 _
 have kd:Kp wc w4:=by rw [hw4];exact (Kp.refl wc).drew
 have hs4:w3.heap.size≤wc.heap.size:=kb4.2.2.2.1
 have hsz:=Below.size KK3
 have hkw4:Kp w w4:=(kb4.kp (HW.out.2.2.1.trans KK3) (by rw [HW.out.2.1];exact Nat.le_refl _)).trans kd
 have x0c:wc.cell? ⟨B,0,none⟩=some (.bool t):=by rw [hwc];simp [go_sem,x0]
 have fz:∀ o,wc.frozen? ⟨B+2,o,none⟩=w3.frozen? ⟨B+2,o,none⟩:=fun o=>by rw [hwc];simp only [World.frozen?_setCell]
 replace x0:=kkeep kd x0c
 replace z0:=kkeep kd (kb4.arr (by omega) (kkeep KK3 z0))
 replace z1:=kkeep kd (kb4.arr (by omega) (kkeep KK3 z1))
 replace z2:=kkeep kd (kb4.arr (by omega) (kkeep KK3 z2))
 replace f0:=(kfro kd (by omega)).trans ((fz 0).trans ((kfro KK3 hlt).trans f0))
 replace f1:=(kfro kd (by omega)).trans ((fz 1).trans ((kfro KK3 hlt).trans f1))
 replace f2:=(kfro kd (by omega)).trans ((fz 2).trans ((kfro KK3 hlt).trans f2))
 have hlt4:B+2<w4.heap.size:=by have:=Below.size kd;omega
 have q5:Calls Tryz.prog 213 #[.slice p2 L2 c2,.slice p1 L1 c1] w4 fun e w'=>∃ v,e=.returned (.tuple #[v,.int .i64 0])∧Own w' w4.heap.size v (dig (B' - A'))∧Kp w4 w':=by
  obtain ⟨h1,h2,h3,h4,h5,h6,-,h8,h9⟩:=HA2.out
  obtain ⟨-,-,-,b1,b2,b3⟩:=HW.out
  have g:=nsub_ p2 p1 c2 c1 (dig B') (dig A') w4 (((h4.grown k3).kb9 kb4 h9).grown kd) (((h1.grown k3).kb9 kb4 h8).grown kd) (Wd_dig _) (Wd_dig _) (by change len32 _<_;omega) (by change len32 _<_;omega) (by rw [← h5];exact h6) (by rw [← h2];exact h3)
  rw [val_dig,val_dig] at g
  have hs:subN B' A'=(dig (B' - A'),0):=by
   unfold subN
   rw [if_neg (by have:=HG.out;omega),if_neg (by omega)]
  rw [hs] at g
  rw [h5,h2]
  exact g
 refine q5.mono ?_;rintro e w5 ⟨v,rfl,ho,k5⟩
 have hls:=ho.ls
 obtain ⟨pv,cv,rfl,hav,hcv⟩:=ho.arr
 replace x0:=kkeep k5 x0
 replace z0:=kkeep k5 z0
 replace z1:=kkeep k5 z1
 replace z2:=kkeep k5 z2
 replace f0:=(kfro k5 hlt4).trans f0
 replace f1:=(kfro k5 hlt4).trans f1
 replace f2:=(kfro k5 hlt4).trans f2
 obtain ⟨LV,hLV⟩:∃ LV,LV=(dig (B' - A')).length:=⟨_,rfl⟩
 rw [← hLV]
 have HO:Hid (Own w5 w4.heap.size (.slice pv (dig (B' - A')).length cv) (dig (B' - A'))∧LV=(dig (B' - A')).length∧Kp w w5∧B+2<w4.heap.size):=⟨ho,hLV,hkw4.trans k5,hlt4⟩
 clear q5 ho hls hav hcv k5 hLV hkw4 kd kb4 hw4 hwc fz x0c x1 x2 y0 y1 y2 HA2 k3 KK3 tcv i0 i1 i2 hs4 hsz hlt4
 go_wp2
 obtain ⟨ho,hL,kw5,hBl⟩:=HO.out
 have kb:Kb (B+2) w5 (((w5.setCell ⟨B+2,0,none⟩ (.bool t)).setCell ⟨B+2,1,none⟩ (.slice pv LV cv)).setCell ⟨B+2,2,none⟩ (.int .i64 low)):=(((Kb.refl (B+2) w5).setCell 0 _).setCell 1 _).setCell 2 _
 have ho2:=ho.kb kb (fun g hg=>by have:=ho.lt g hg;omega)
 have hls:=ho2.ls
 rw [← hL] at hls
 have hkw:Kp w (((w5.setCell ⟨B+2,0,none⟩ (.bool t)).setCell ⟨B+2,1,none⟩ (.slice pv LV cv)).setCell ⟨B+2,2,none⟩ (.int .i64 low)):=kb.kp kw5 (by rw [HW.out.2.1];omega)
 exact BR (v:=.agg #[.bool t,.slice pv LV cv,.int .i64 low]) (by simp [results,Tryz.results179,go_sem,z0,z1,z2]) rfl ⟨_,rfl,hls,hkw⟩
end Go.Proofs.YtmpjcknaelgnoaaGreatDoor
