import Derived.Test.YtcfnialfpblfmaaGreatDoorKNRm
import Derived.OneCell
set_option maxHeartbeats 1000000
set_option maxRecDepth 20000
namespace Go.Proofs.YtcfnialfpblfmaaGreatDoor
open Go.RowKit
theorem mM_lt7 (m:Nat):Fq.mM Ieee.double m<9007199254740992:=by
 unfold Fq.mM;rw [Fq.binD]
 by_cases c:m<4503599627370496
 ·rw [if_pos c];omega
 ·rw [if_neg c]
  have:=Nat.mod_lt m (show 0<4503599627370496 by decide)
  omega
theorem whole_rp (K:Nat) (hK:K=1074) (m Q:Nat) (hm:m<9218868437227405312) (h:Q*2 ^ K=Fq.vV Ieee.double m∨Q≤4503599627370496):Fq.vV Ieee.double (rgU 53 (Q*2 ^ K))=Q*2 ^ K∧rgU 53 (Q*2 ^ K)<9218868437227405312:=by
 rcases h with h | h
 ·rw [h,rg_vV m hm];exact ⟨rfl,hm⟩
 ·have hfl:FL ((Q*2 ^ K:Nat):Int):=⟨K,⟨(Q:Int),by rw [Int.natCast_mul,Int.mul_comm,Int.natCast_pow];rfl⟩,by rw [Int.natAbs_natCast];exact Nat.mul_le_mul_right _ (by omega)⟩
  have e:=rU_fl 0 (Q*2 ^ K) hfl
  have v:=vV_rung (Q*2 ^ K) 0
  rw [e] at v
  refine ⟨v, ?_⟩
  obtain ⟨J,hJ⟩:∃ J:Nat,J=1024:=⟨_,rfl⟩
  have hI:Fq.vV Ieee.double 9218868437227405312=2 ^ (J+K):=by rw [hJ];exact vV_inf K hK
  apply (Fq.vV_lt_iff Ieee.double _ _).1
  rw [v,hI,Nat.pow_add]
  refine Nat.mul_lt_mul_of_pos_right (Nat.lt_of_le_of_lt h ?_) (Nat.two_pow_pos K)
  rw [show (4503599627370496:Nat)=2 ^ 52 from by decide]
  exact Nat.pow_lt_pow_right (by decide) (by omega)
theorem cut_rp (K:Nat) (k:Nat) (s:Bool) (m:Nat):cutN k s (Fq.vV Ieee.double m) (2 ^ K)*2 ^ K=Fq.vV Ieee.double m∨cutN k s (Fq.vV Ieee.double m) (2 ^ K)≤4503599627370496:=by
 obtain ⟨E,hE⟩:∃ E,E=Fq.eE Ieee.double m:=⟨_,rfl⟩
 obtain ⟨M,hM⟩:∃ M,M=Fq.mM Ieee.double m:=⟨_,rfl⟩
 have hV:Fq.vV Ieee.double m=M*2 ^ E:=by rw [hM,hE];rfl
 have hMl:M<9007199254740992:=by rw [hM];exact mM_lt7 m
 rw [hV]
 clear hV hM hE
 by_cases c:K≤E
 ·left
  have e:M*2 ^ E=M*2 ^ (E - K)*2 ^ K:=by rw [Nat.mul_assoc,← Nat.pow_add];congr 2;omega
  rw [e,cutN_mul _ _ _ _ (Nat.two_pow_pos K)]
 ·right
  have h1:M*2 ^ E<4503599627370496*2 ^ K:=by
   have a1:M*2 ^ E<9007199254740992*2 ^ E:=Nat.mul_lt_mul_of_pos_right hMl (Nat.two_pow_pos E)
   have a2:2 ^ (E+1)≤2 ^ K:=Nat.pow_le_pow_right (by decide) (by omega)
   rw [Nat.pow_succ] at a2
   generalize 2 ^ E=P at *
   generalize 2 ^ K=R at *
   generalize M*P=X at *
   omega
  have h2:M*2 ^ E / 2 ^ K<4503599627370496:=(Nat.div_lt_iff_lt_mul (Nat.two_pow_pos K)).2 h1
  have h3:=b1_le (bmp k s (M*2 ^ E / 2 ^ K) (M*2 ^ E % 2 ^ K) (2 ^ K))
  unfold cutN
  omega
theorem cut_fin (K:Nat) (hK:K=1074) (k:Nat) (s:Bool) (m:Nat) (hm:m<9218868437227405312):Fq.vV Ieee.double (rgU 53 (cutN k s (Fq.vV Ieee.double m) (2 ^ K)*2 ^ K))=cutN k s (Fq.vV Ieee.double m) (2 ^ K)*2 ^ K∧rgU 53 (cutN k s (Fq.vV Ieee.double m) (2 ^ K)*2 ^ K)<9218868437227405312:=whole_rp K hK m _ hm (cut_rp K k s m)
def cR (K k:Nat) (s:Bool) (m:Nat):Nat:=if m=9218868437227405312 then m else rgU 53 (cutN k s (Fq.vV Ieee.double m) (2 ^ K)*2 ^ K)
theorem cR_le (K:Nat) (hK:K=1074) (k:Nat) (s:Bool) (m:Nat) (hm:m≤9218868437227405312):cR K k s m≤9218868437227405312:=by
 unfold cR
 by_cases c:m=9218868437227405312
 ·rw [if_pos c];omega
 ·rw [if_neg c]
  have:=(cut_fin K hK k s m (by omega)).2
  omega
theorem int_w (K:Nat) (hK:K=1074) (k:Nat) (hk:1≤k∧k≤4) (n:Bool) (m:Nat) (hm:m≤9218868437227405312):FloatKind.f64.encode ((FloatKind.f64.decode (Fq.wD n m)).integral (wayOf k))=Fq.wD n (cR K k n m):=by
 show Ieee.double.write ((Ieee.double.read (Fq.wD n m)).integral _)=_
 unfold cR
 by_cases ci:m=9218868437227405312
 ·rw [if_pos ci,ci,Fq.read_inf _ _ Fq.binfD (by rw [Fq.rgD n _ (by omega),Fq.infD]),Fq.ngD n _ (by omega)]
  unfold Ieee.Datum.integral Ieee.Format.write
  simp only
  rw [wdD9,Fq.infD]
 rw [if_neg ci]
 rw [Fq.read_fin _ _ (by rw [Fq.rgD n m (by omega),Fq.infD];omega),Fq.rgD n m (by omega),Fq.ngD n m (by omega),lpD9]
 unfold Ieee.Datum.integral Ieee.Format.write
 simp only
 rw [cut_way k hk,near_w _ _ _ K (by omega)]
 have e1:cutN k n (Fq.mM Ieee.double m <<< (-1074+(Fq.eE Ieee.double m:Int)).toNat) (2 ^ (-(-1074+(Fq.eE Ieee.double m:Int))).toNat)=cutN k n (Fq.vV Ieee.double m) (2 ^ K):=by
  rw [Nat.shiftLeft_eq]
  show _=cutN k n (Fq.mM Ieee.double m*2 ^ Fq.eE Ieee.double m) (2 ^ K)
  generalize Fq.mM Ieee.double m=M
  generalize Fq.eE Ieee.double m=E
  by_cases c:K≤E
  ·rw [show (-1074+(E:Int)).toNat=E - K from by omega,show (-(-1074+(E:Int))).toNat=0 from by omega,Nat.pow_zero]
   have h:=cutN_scale k n (M*2 ^ (E - K)) 1 (2 ^ K) (Nat.two_pow_pos K)
   rw [Nat.one_mul,Nat.mul_assoc,← Nat.pow_add,show E - K+K=E from by omega] at h
   exact h.symm
  ·rw [show (-1074+(E:Int)).toNat=0 from by omega,show (-(-1074+(E:Int))).toNat=K - E from by omega,Nat.pow_zero,Nat.mul_one]
   have h:=cutN_scale k n M (2 ^ (K - E)) (2 ^ E) (Nat.two_pow_pos E)
   rw [← Nat.pow_add,show K - E+E=K from by omega] at h
   exact h.symm
 rw [e1]
 obtain ⟨v,lt⟩:=cut_fin K hK k n m (by omega)
 generalize cutN k n (Fq.vV Ieee.double m) (2 ^ K)*2 ^ K=X at *
 have h1:=rU_vV 0 (rgU 53 X) lt
 rw [v] at h1
 have h2:=fin_vV 0 (rgU 53 X) lt
 rw [v] at h2
 rw [h1,h2]
def plV (V:Int):Int:=if V<0 then -((rgU 53 V.natAbs:Nat):Int) else ((rgU 53 V.natAbs:Nat):Int)
def stZ (K k:Nat) (z:Int):Int:=if k=0 then (if z<0 then -4607182418800017408 else if z=0 then 0 else 4607182418800017408) else if z=9218868437227405312∨z = -9218868437227405312 then z else plV (stV k (2 ^ K) (vZ z))
theorem vZ_lt7 (x y:Int) (h:x<y):vZ x<vZ y:=by
 have p:∀ z:Int,0≤z→vZ z=((Fq.vV Ieee.double z.natAbs:Nat):Int):=vZ_pos
 have q:∀ a b:Nat,a<b→Fq.vV Ieee.double a<Fq.vV Ieee.double b:=fun a b g=>Fq.vV_lt _ g
 rcases Int.lt_or_le x 0 with c | c
 ·have e:=vZ_neg (-x)
  rw [Int.neg_neg] at e
  rw [e,p (-x) (by omega)]
  rcases Int.lt_or_le y 0 with c2 | c2
  ·have e2:=vZ_neg (-y)
   rw [Int.neg_neg] at e2
   rw [e2,p (-y) (by omega)]
   have:=q (-y).natAbs (-x).natAbs (by omega)
   omega
  ·rw [p y c2]
   have:=q 0 (-x).natAbs (by omega)
   omega
 ·rw [p x c,p y (by omega)]
  have:=q x.natAbs y.natAbs (by omega)
  omega
theorem vZ_iff (x y:Int):vZ x≤vZ y ↔ x≤y:=by
 constructor
 ·intro h
  rcases Int.lt_or_le y x with c | c
  ·have:=vZ_lt7 _ _ c;omega
  ·exact c
 ·intro h
  rcases Int.lt_or_le x y with c | c
  ·have:=vZ_lt7 _ _ c;omega
  ·have:x=y:=by omega
   rw [this];exact Int.le_refl _
theorem vZ_0:vZ 0=0:=by rw [vZ_pos 0 (by omega)];exact congrArg _ vV0X
theorem rgU0:rgU 53 0=0:=rgU_zero _
theorem stZ_word (K:Nat) (k:Nat) (hk:k≠0) (z:Int) (hz:BdZ z):Fq.plz (decide (z<0)) (cR K k (decide (z<0)) z.natAbs)=stZ K k z:=by
 unfold stZ cR BdZ at *
 rw [if_neg hk]
 by_cases ci:z=9218868437227405312∨z = -9218868437227405312
 ·rw [if_pos ci,if_pos (by omega)];unfold Fq.plz;by_cases c:z<0 <;> simp [c] <;> omega
 rw [if_neg ci,if_neg (by omega)]
 unfold plV stV Fq.plz
 rw [if_neg hk]
 by_cases c:z<0
 ·have e:=vZ_neg (-z)
  rw [Int.neg_neg,vZ_pos (-z) (by omega),Int.natAbs_neg] at e
  have hv:vZ z<0:=by have:=vZ_lt7 z 0 c;rw [vZ_0] at this;exact this
  rw [decide_eq_true c,if_pos rfl,if_pos hv,e,Int.natAbs_neg,Int.natAbs_natCast]
  generalize cutN k true (Fq.vV Ieee.double z.natAbs) (2 ^ K)*2 ^ K=X
  by_cases x0:X=0
  ·rw [x0,rgU0];simp;rw [rgU0];rfl
  ·rw [if_pos (by omega),Int.natAbs_neg,Int.natAbs_natCast]
 ·have e:=vZ_pos z (by omega)
  rw [decide_eq_false c,if_neg (by decide),e,if_neg (show ¬ ((Fq.vV Ieee.double z.natAbs:Nat):Int)<0 by omega),Int.natAbs_natCast]
  generalize cutN k false (Fq.vV Ieee.double z.natAbs) (2 ^ K)*2 ^ K=X
  rw [if_neg (by omega),Int.natAbs_natCast]
theorem stZ_val (K:Nat) (hK:K=1074) (k:Nat) (hk:k≠0) (z:Int) (hz:-9218868437227405312<z∧z<9218868437227405312):vZ (stZ K k z)=stV k (2 ^ K) (vZ z)∧-9218868437227405312<stZ K k z∧stZ K k z<9218868437227405312:=by
 have hw:=stZ_word K k hk z (by unfold BdZ;omega)
 rw [← hw]
 unfold stV cR
 rw [if_neg hk,if_neg (show ¬ z.natAbs=9218868437227405312 by omega)]
 by_cases c:z<0
 ·have e:=vZ_neg (-z)
  rw [Int.neg_neg,vZ_pos (-z) (by omega),Int.natAbs_neg] at e
  have hv:vZ z<0:=by have:=vZ_lt7 z 0 c;rw [vZ_0] at this;exact this
  obtain ⟨v,lt⟩:=cut_fin K hK k true z.natAbs (by omega)
  rw [decide_eq_true c,if_pos hv,e,Int.natAbs_neg,Int.natAbs_natCast]
  generalize cutN k true (Fq.vV Ieee.double z.natAbs) (2 ^ K)*2 ^ K=X at *
  generalize rgU 53 X=R at *
  unfold Fq.plz
  rw [if_pos rfl,vZ_neg,vZ_pos (R:Int) (by omega),Int.natAbs_natCast,v]
  exact ⟨rfl,by omega,by omega⟩
 ·have e:=vZ_pos z (by omega)
  obtain ⟨v,lt⟩:=cut_fin K hK k false z.natAbs (by omega)
  rw [decide_eq_false c,e,if_neg (show ¬ ((Fq.vV Ieee.double z.natAbs:Nat):Int)<0 by omega),Int.natAbs_natCast]
  generalize cutN k false (Fq.vV Ieee.double z.natAbs) (2 ^ K)*2 ^ K=X at *
  generalize rgU 53 X=R at *
  unfold Fq.plz
  rw [if_neg (by decide),vZ_pos (R:Int) (by omega),Int.natAbs_natCast,v]
  exact ⟨rfl,by omega,by omega⟩
theorem stZ_inf (K k:Nat) (hk:k≠0) (z:Int) (h:z=9218868437227405312∨z = -9218868437227405312):stZ K k z=z:=by
 unfold stZ;rw [if_neg hk,if_pos h]
theorem stZ_bd (K:Nat) (hK:K=1074) (k:Nat) (z:Int) (hz:BdZ z):BdZ (stZ K k z):=by
 unfold BdZ at *
 by_cases c:k=0
 ·unfold stZ;rw [if_pos c];split
  ·omega
  ·split <;> omega
 by_cases ci:z=9218868437227405312∨z = -9218868437227405312
 ·rw [stZ_inf K k c z ci];omega
 ·have:=(stZ_val K hK k c z (by omega)).2;omega
theorem stZ_mono (K:Nat) (hK:K=1074) (k:Nat) (x y:Int) (hx:BdZ x) (hy:BdZ y) (h:x≤y):stZ K k x≤stZ K k y:=by
 have bx:=stZ_bd K hK k x hx
 have b9:=stZ_bd K hK k y hy
 unfold BdZ at *
 by_cases c:k=0
 ·unfold stZ;rw [if_pos c,if_pos c]
  by_cases a:x<0 <;> by_cases b:y<0 <;> by_cases a0:x=0 <;> by_cases b0:y=0 <;> simp [a,b,a0,b0] <;> omega
 by_cases cx:x = -9218868437227405312
 ·rw [stZ_inf K k c x (Or.inr cx),cx];omega
 by_cases cy:y=9218868437227405312
 ·rw [stZ_inf K k c y (Or.inl cy),cy];omega
 have vx:=stZ_val K hK k c x (by omega)
 have vy:=stZ_val K hK k c y (by omega)
 apply (vZ_iff _ _).1
 rw [vx.1,vy.1]
 exact stV_mono k _ (Nat.two_pow_pos K) _ _ ((vZ_iff _ _).2 h)
theorem stZ_vd (K:Nat) (hK:K=1074) (k:Nat) (L H:Int) (h:VdZ L H) (n:L≠9218868437227405312):VdZ (stZ K k L) (stZ K k H):=by
 have m:=stZ_mono K hK k L H h.lo h.hi
 have b1:=stZ_bd K hK k L h.lo
 have b2:=stZ_bd K hK k H h.hi
 unfold VdZ BdZ at *
 have hh:L≤H∧-9218868437227405312<H:=by omega
 replace m:=m hh.1
 right
 by_cases c:k=0
 ·unfold stZ at *;rw [if_pos c] at *
  refine ⟨?_, ?_, ?_, ?_, ?_⟩ <;> (first | omega | (rw [if_pos c];split <;> (try split) <;> omega))
 have fL:stZ K k L<9218868437227405312:=by
  by_cases ci:L = -9218868437227405312
  ·rw [stZ_inf K k c L (Or.inr ci)];omega
  ·exact (stZ_val K hK k c L (by omega)).2.2
 have fH:-9218868437227405312<stZ K k H:=by
  by_cases ci:H=9218868437227405312
  ·rw [stZ_inf K k c H (Or.inl ci)];omega
  ·exact (stZ_val K hK k c H (by omega)).2.1
 omega
theorem rpower1_ (p:Option Addr) (c m:Nat) (xs:List Int) (w:World) (hx:Arr w p xs) (hwx:Wd xs) (lx:xs.length≤16777216) (ha:1≤val xs) (hK:len32 (val xs ^ m)≤16777216) (hm9:m≤1048576) :
  Calls Tryz.prog 68 #[.slice p xs.length c,.int .i64 (m:Int)] w fun e w'=>∃ v,e=.returned v∧Own w' w.heap.size v (dig (val xs ^ m))∧Kp w w':=by
 have hno:=fun w' (k:Kp w w')=>rnorm_ p c xs w' (hx.grown k) (by omega)
 have htm:∀ (x y:Nat) (p1 p2:Option Addr) (c1 c2:Nat) (w':World),len32 x≤16777216→len32 y≤16777216→Arr w' p1 (dig x)→Arr w' p2 (dig y) →
   Calls Tryz.prog 70 #[.slice p1 (dig x).length c1,.slice p2 (dig y).length c2] w' fun e w''=>∃ v,e=.returned v∧Own w'' w'.heap.size v (dig (x*y))∧Kp w' w'':=fun x y p1 p2 c1 c2 w' hx hy h1 h2=>by
  have:=rtimes_ p1 p2 c1 c2 (dig x) (dig y) w' h1 h2 (Wd_dig _) (Wd_dig _) hx hy
  rw [val_dig,val_dig] at this
  exact this
 have HT:Hid (∀ (x y:Nat) (p1 p2:Option Addr) (c1 c2:Nat) (w':World),len32 x≤16777216→len32 y≤16777216→Arr w' p1 (dig x)→Arr w' p2 (dig y) →
   Calls Tryz.prog 70 #[.slice p1 (dig x).length c1,.slice p2 (dig y).length c2] w' fun e w''=>∃ v,e=.returned v∧Own w'' w'.heap.size v (dig (x*y))∧Kp w' w''):=htm
 rw [nz_dig xs hwx] at hno
 obtain ⟨a,hA⟩:∃ a,a=val xs:=⟨_,rfl⟩
 obtain ⟨N,hN⟩:∃ N,N=xs.length:=⟨_,rfl⟩
 rw [← hA] at hno ha hK ⊢
 rw [← hN] at hno ⊢
 obtain ⟨R,hR⟩:∃ R,R=a ^ m:=⟨_,rfl⟩
 rw [← hR] at hK ⊢
 have hO1:=own1 w
 have hk1:Kp w (w.alloc (.cells #[.int .u32 1] 81)):=(Kp.refl w).alloc _
 have h1:=hno _ hk1
 have HR:Hid (R=a ^ m∧len32 R≤16777216∧1≤a):=⟨hR,hK,ha⟩
 clear htm hno hx hwx lx hA hN hR hK ha
 go_enter Tryz.func68,Tryz.ntmps68
 go_wp2_with fail
 refine h1.mono ?_;rintro e w1 ⟨v1,rfl,hOx,hk2⟩
 have HO:Hid (Own w1 w.heap.size (.slice (some ⟨w.heap.size,0,none⟩) 1 1) (dig 1)∧Own w1 w.heap.size v1 (dig a)∧Kp w w1):=⟨by rw [dig_one];exact hO1.kp hk2,hOx.mono hk1.size,hk1.trans hk2⟩
 clear h1 hOx hk2 hO1 hk1
 go_wp2
 go_loopw [1,5,6] (fun nn pp xx wr=>∃ (k P X:Nat) (v u:Value),nn=.int .i64 (k:Int)∧v=pp∧u=xx∧Own wr w.heap.size v (dig P)∧Own wr w.heap.size u (dig X)∧P*X ^ k=R∧1≤P∧1≤X∧Kp w wr∧k≤m) (fun nn _ _ _=>(intOf nn).toNat)
 case atStart=>exact ⟨m,1,a,_,_,rfl,rfl,rfl,HO.out.1,HO.out.2.1,by rw [Nat.one_mul];exact HR.out.1.symm,Nat.le_refl _,HR.out.2.2,HO.out.2.2,Nat.le_refl _⟩
 case round =>
  clear HO
  obtain ⟨k,P,X,v,u,rfl,rfl,rfl,hOp,hOx,hPX,hP,hX,hkp,hkm⟩:=hrel
  by_cases ck:k=0
  ·subst ck
   rw [Nat.pow_zero,Nat.mul_one] at hPX
   subst hPX
   clear HT HR hP hX hOx
   go_wp2
   exact BR (v:=v) (by simp [results,Tryz.results68,go_sem] <;> simp only [*]) rfl ⟨_,rfl,hOp,hkp⟩
  ·have t1:(0:Int)<(k:Int):=by omega
   have hlR:=HR.out.2.1
   have hXk:X≤X ^ k:=by
    have:=Nat.pow_le_pow_right (by omega:0<X) (by omega:1≤k)
    rw [Nat.pow_one] at this;exact this
   have hXk1:1≤X ^ k:=Nat.pow_pos (by omega)
   have hPR:P≤R:=by rw [← hPX];exact Nat.le_mul_of_pos_right _ hXk1
   have hXR:X≤R:=by rw [← hPX];exact Nat.le_trans hXk (Nat.le_mul_of_pos_left _ hP)
   have lP:len32 P≤16777216:=Nat.le_trans (len32_mono hPR) hlR
   have lX:len32 X≤16777216:=Nat.le_trans (len32_mono hXR) hlR
   obtain ⟨h,hh⟩:∃ h,h=k / 2:=⟨_,rfl⟩
   have fh:(k:Int) / 2=(h:Int):=by omega
   have hhb:h≤1048576:=by omega
   obtain ⟨p1,c1,rfl,hAp,_⟩:=hOp.arr
   obtain ⟨p2,c2,rfl,hAx,_⟩:=hOx.arr
   have hX2:X*X=X ^ 2:=by rw [Nat.pow_succ,Nat.pow_one]
   have hXX:1≤X*X:=Nat.le_trans hX (Nat.le_mul_of_pos_left _ (by omega))
   have hhk:h<k:=by omega
   have hsq:=fun w' (k':Kp wr w')=>HT.out X X p2 p2 c2 c2 w' lX lX (hAx.grown k') (hAx.grown k')
   obtain ⟨DX,hDX⟩:∃ DX,DX=(dig X).length:=⟨_,rfl⟩
   rcases (by omega:k % 2=0∨k % 2=1) with ce | ce
   ·have fm:(k:Int) % 2=0:=by omega
    have hPX2:P*(X*X) ^ h=R:=by rw [hX2,← Nat.pow_mul,show 2*h=k from by omega];exact hPX
    rw [← hDX] at hsq
    obtain ⟨DP,hDP⟩:∃ DP,DP=(dig P).length:=⟨_,rfl⟩
    have hOp2:Own wr w.heap.size (.slice p1 DP c1) (dig P):=by rw [hDP];exact hOp
    have hOx2:Own wr w.heap.size (.slice p2 DX c2) (dig X):=by rw [hDX];exact hOx
    rw [← hDX,← hDP]
    clear hOp hOx hDX hDP HR hXk hXk1 hPR hXR lP lX hAp hAx hlR HT hPX
    have hne:h≠0:=by omega
    clear hh
    by_cases c0:h=0
    ·exact absurd c0 hne
    ·have t2:(0:Int)<(h:Int):=by omega
     have h2:=hsq wr (Kp.refl _)
     clear hsq hX2
     go_wp2_with fail
     refine h2.mono ?_;rintro e w3 ⟨v3,rfl,hO3,hk3⟩
     have hO4:Own w3 w.heap.size v3 (dig (X*X)):=hO3.mono hkp.size
     have hO5:=hOp2.kp hk3
     have hk5:=hkp.trans hk3
     clear hO3 hk3 hkp hOp2 hOx2 h2
     go_wp2
     exact ⟨⟨h,P,X*X,_,_,by go_num,rfl,rfl,hO5,hO4,hPX2,hP,hXX,hk5,by omega⟩,by simp [intOf];omega⟩
   ·have fm:(k:Int) % 2=1:=by omega
    have hPX2:(P*X)*(X*X) ^ h=R:=by
     rw [hX2,← Nat.pow_mul,Nat.mul_assoc,Nat.mul_comm X,← Nat.pow_succ,show (2*h).succ=k from by omega];exact hPX
    have h2:=HT.out P X p1 p2 c1 c2 wr lP lX hAp hAx
    rw [← hDX] at hsq h2
    obtain ⟨DP,hDP⟩:∃ DP,DP=(dig P).length:=⟨_,rfl⟩
    rw [← hDP] at h2
    have hOx2:Own wr w.heap.size (.slice p2 DX c2) (dig X):=by rw [hDX];exact hOx
    rw [← hDX,← hDP]
    have hPX1:1≤P*X:=Nat.mul_pos hP (by omega)
    clear hh
    clear hOp hOx hDX hDP HR hXk hXk1 hPR hXR lP lX hAp hAx hlR HT hPX
    go_wp2_with fail
    refine h2.mono ?_;rintro e w3 ⟨v3,rfl,hO3,hk3⟩
    have h4:=hsq w3 hk3
    have hO4:Own w3 w.heap.size v3 (dig (P*X)):=hO3.mono hkp.size
    have hO5:=hOx2.kp hk3
    have hk5:=hkp.trans hk3
    clear hO3 hk3 hkp hOx2 h2 hsq hX2
    by_cases c0:h=0
    ·have t2:¬ ((0:Int)<(h:Int)):=by omega
     clear h4
     go_wp2
     exact ⟨⟨h,P*X,X,_,_,by go_num,rfl,rfl,hO4,hO5,by rw [← hPX2,c0,Nat.pow_zero,Nat.pow_zero],hPX1,hX,hk5,by omega⟩,by simp [intOf];omega⟩
    ·have t2:(0:Int)<(h:Int):=by omega
     go_wp2_with fail
     refine h4.mono ?_;rintro e w4 ⟨v4,rfl,hO6,hk6⟩
     have hO7:Own w4 w.heap.size v4 (dig (X*X)):=hO6.mono hk5.size
     have hO8:=hO4.kp hk6
     have hk7:=hk5.trans hk6
     clear hO6 hk6 hk5 hO4 hO5 h4
     go_wp2
     exact ⟨⟨h,P*X,X*X,_,_,by go_num,rfl,rfl,hO8,hO7,hPX2,hPX1,hXX,hk7,by omega⟩,by simp [intOf];omega⟩
theorem timesW (v1 v2:Value) (a b:Nat) (w:World) (h1:Ls w v1 (dig a)) (h2:Ls w v2 (dig b)) (l1:len32 a≤16777216) (l2:len32 b≤16777216) :
  Calls Tryz.prog 70 #[v1,v2] w fun e w'=>∃ p c,e=.returned (.slice p (dig (a*b)).length c)∧Arr w' p (dig (a*b))∧(dig (a*b)).length≤c∧Kp w w':=by
 obtain ⟨p,c,rfl,hA,hc⟩:=h1
 obtain ⟨q,d,rfl,hB,hd⟩:=h2
 have h:=rtimes_ p q c d (dig a) (dig b) w hA hB (Wd_dig a) (Wd_dig b) (by change len32 a≤_;omega) (by change len32 b≤_;omega)
 rw [val_dig,val_dig] at h
 refine h.mono ?_
 rintro e w' ⟨v,h1,h2,h3⟩
 obtain ⟨p,c,rfl,h4,h5⟩:=h2.arr
 exact ⟨p,c,h1,h4,h5,h3⟩
theorem cmI_scale (x y k:Int) (hk:0<k):cmI (x*k) (y*k)=cmI x y:=by
 unfold cmI
 have e1:x*k<y*k ↔ x<y:=⟨fun h=>Int.lt_of_mul_lt_mul_right h (Int.le_of_lt hk),fun h=>Int.mul_lt_mul_of_pos_right h hk⟩
 have e2:y*k<x*k ↔ y<x:=⟨fun h=>Int.lt_of_mul_lt_mul_right h (Int.le_of_lt hk),fun h=>Int.mul_lt_mul_of_pos_right h hk⟩
 simp only [e1,e2]
theorem cmI_le0 (x y:Int):cmI x y≤0 ↔ x≤y:=by
 unfold cmI
 by_cases c1:x<y
 ·rw [if_pos c1];omega
 ·rw [if_neg c1]
  by_cases c2:y<x
  ·rw [if_pos c2];omega
  ·rw [if_neg c2];omega

set_option linter.unusedVariables false
def H4c (w:World) (b:Nat) (v0 v1 v2 v3:Value):Prop:=w.cell? ⟨b,0,none⟩=some v0∧w.cell? ⟨b,1,none⟩=some v1∧w.cell? ⟨b,2,none⟩=some v2∧w.cell? ⟨b,3,none⟩=some v3∧w.frozen? ⟨b,0,none⟩=false∧w.frozen? ⟨b,1,none⟩=false∧w.frozen? ⟨b,2,none⟩=false∧w.frozen? ⟨b,3,none⟩=false
def H9c (w:World) (b:Nat) (v0 v1 v2 v3 v4 v5 v6 v7 v8:Value):Prop:=w.cell? ⟨b,0,none⟩=some v0∧w.cell? ⟨b,1,none⟩=some v1∧w.cell? ⟨b,2,none⟩=some v2∧w.cell? ⟨b,3,none⟩=some v3∧w.cell? ⟨b,4,none⟩=some v4∧w.cell? ⟨b,5,none⟩=some v5∧w.cell? ⟨b,6,none⟩=some v6∧w.cell? ⟨b,7,none⟩=some v7∧w.cell? ⟨b,8,none⟩=some v8∧w.frozen? ⟨b,0,none⟩=false∧w.frozen? ⟨b,1,none⟩=false∧w.frozen? ⟨b,2,none⟩=false∧w.frozen? ⟨b,3,none⟩=false∧w.frozen? ⟨b,4,none⟩=false∧w.frozen? ⟨b,5,none⟩=false∧w.frozen? ⟨b,6,none⟩=false∧w.frozen? ⟨b,7,none⟩=false∧w.frozen? ⟨b,8,none⟩=false
set_option linter.unusedVariables false
theorem frac_ratio (x D a b:Nat) (hD:D≠0) (hF:FracOf x D 0 a b):a*D=x*b:=by
 have hb:=hF.1
 by_cases c0:x=0
 ·rw [hF.2.1.2 c0,c0,Nat.zero_mul,Nat.zero_mul]
 ·have hfl:∀ t:Nat,a*2 ^ t / b=x*2 ^ t / D:=fun t=>by
   have h:=hF.2.2.1 (-1) (blen (a*2 ^ t / b)+blen (x*2 ^ t / D)) (t:Int) c0
   unfold rV at h
   rw [show ((t:Int)).toNat=t from by omega,show (-(t:Int)).toNat=0 from by omega,show ((t:Int)+0).toNat=t from by omega,show (-((t:Int)+0)).toNat=0 from by omega,Nat.pow_zero,Nat.mul_one,Nat.mul_one,rU_floor _ _ _ (by omega),rU_floor _ _ _ (by omega)] at h
   exact h
  obtain ⟨t,ht⟩:∃ t,b*D<2 ^ t:=⟨b*D,Nat.lt_two_pow_self⟩
  have h:=hfl t
  obtain ⟨f,hf⟩:∃ f,f=a*2 ^ t / b:=⟨_,rfl⟩
  have f1:f*b≤a*2 ^ t:=by rw [hf];exact Nat.div_mul_le_self _ _
  have f2:a*2 ^ t<(f+1)*b:=by rw [hf];exact Nat.lt_mul_of_div_lt (Nat.lt_succ_self _) (by omega)
  have f3:f*D≤x*2 ^ t:=by rw [hf,h];exact Nat.div_mul_le_self _ _
  have f4:x*2 ^ t<(f+1)*D:=by rw [hf,h];exact Nat.lt_mul_of_div_lt (Nat.lt_succ_self _) (by omega)
  have g1:=Nat.mul_le_mul_right D f1
  have g2:=Nat.mul_lt_mul_of_pos_right f2 (show 0<D by omega)
  have g3:=Nat.mul_le_mul_right b f3
  have g4:=Nat.mul_lt_mul_of_pos_right f4 (show 0<b by omega)
  rw [show f*b*D=f*(b*D) from Nat.mul_assoc _ _ _,show a*2 ^ t*D=a*D*2 ^ t from Nat.mul_right_comm _ _ _] at g1
  rw [show (f+1)*b*D=f*(b*D)+b*D from by rw [Nat.mul_assoc,Nat.add_mul,Nat.one_mul],show a*2 ^ t*D=a*D*2 ^ t from Nat.mul_right_comm _ _ _] at g2
  rw [show f*D*b=f*(b*D) from by rw [Nat.mul_assoc,Nat.mul_comm D b],show x*2 ^ t*b=x*b*2 ^ t from Nat.mul_right_comm _ _ _] at g3
  rw [show (f+1)*D*b=f*(b*D)+b*D from by rw [Nat.mul_assoc,Nat.mul_comm D b,Nat.add_mul,Nat.one_mul],show x*2 ^ t*b=x*b*2 ^ t from Nat.mul_right_comm _ _ _] at g4
  rcases Nat.lt_trichotomy (a*D) (x*b) with c | c | c
  ·exfalso
   have h5:=Nat.mul_le_mul_right (2 ^ t) (show a*D+1≤x*b from c)
   rw [Nat.add_mul,Nat.one_mul] at h5
   omega
  ·exact c
  ·exfalso
   have h5:=Nat.mul_le_mul_right (2 ^ t) (show x*b+1≤a*D from c)
   rw [Nat.add_mul,Nat.one_mul] at h5
   omega

set_option linter.unusedVariables false
def XF (s:Bool) (a b:Nat) (V:Int) (C N:Nat):Prop:=b≠0∧C≠0∧rvI s a*(C:Int)=V*(b:Int)∧blen a≤N∧blen b≤N
def XP (base:Nat) (w:World) (s:Bool) (p:Option Addr) (l c:Nat) (q:Option Addr) (k d:Nat) (V:Int) (C N:Nat):Prop:=∃ a b,Own w base (.slice p l c) (dig a)∧Own w base (.slice q k d) (dig b)∧XF s a b V C N
theorem XP.kp {base:Nat} {w:World} {s:Bool} {p:Option Addr} {l c:Nat} {q:Option Addr} {k d:Nat} {V:Int} {C N:Nat} {w':World} (h:XP base w s p l c q k d V C N) (g:Kp w w'):XP base w' s p l c q k d V C N:=by
 obtain ⟨a,b,h1,h2,h3⟩:=h
 exact ⟨a,b,h1.kp g,h2.kp g,h3⟩
theorem XP.mono {base:Nat} {w:World} {s:Bool} {p:Option Addr} {l c:Nat} {q:Option Addr} {k d:Nat} {V:Int} {C N:Nat} {base':Nat} (h:XP base w s p l c q k d V C N) (g:base'≤base):XP base' w s p l c q k d V C N:=by
 obtain ⟨a,b,h1,h2,h3⟩:=h
 exact ⟨a,b,h1.mono g,h2.mono g,h3⟩
theorem XP.set {base:Nat} {w:World} {s:Bool} {p:Option Addr} {l c:Nat} {q:Option Addr} {k d:Nat} {V:Int} {C N:Nat} (h:XP base w s p l c q k d V C N) {x:Addr} (hx:x.block<base) (u:Value):XP base (w.setCell x u) s p l c q k d V C N:=by
 obtain ⟨a,b,h1,h2,h3⟩:=h
 exact ⟨a,b,h1.setOther hx u,h2.setOther hx u,h3⟩
theorem XP.as {base:Nat} {w:World} {s:Bool} {p:Option Addr} {l c:Nat} {q:Option Addr} {k d:Nat} {V:Int} {C N:Nat} (h:XP base w s p l c q k d V C N) (V2:Int) (C2 N2:Nat) (hc:C2≠0) (e:V*(C2:Int)=V2*(C:Int)) (hN:N≤N2):XP base w s p l c q k d V2 C2 N2:=by
 obtain ⟨a,b,h1,h2,f1,f2,f3,f4,f5⟩:=h
 refine ⟨a,b,h1,h2,f1,hc, ?_,by omega,by omega⟩
 refine Int.eq_of_mul_eq_mul_right (show (C:Int)≠0 by omega) ?_
 have e1:rvI s a*(C2:Int)*(C:Int)=rvI s a*(C:Int)*(C2:Int):=by ac_rfl
 have e2:V2*(b:Int)*(C:Int)=V2*(C:Int)*(b:Int):=by ac_rfl
 rw [e1,f3,e2,← e];ac_rfl
theorem RP.xp {base:Nat} {w:World} {s:Bool} {p:Option Addr} {l c:Nat} {q:Option Addr} {k d:Nat} {n:Bool} {m:Nat} (h:RP base w s p l c q k d n m) (K:Nat) (hK:K=1074):XP base w s p l c q k d (Iv n m) (2 ^ K) 1500:=by
 obtain ⟨a,b,h1,h2,h3⟩:=h
 obtain ⟨f1,f2,f3,f4,f5⟩:=h3 K hK
 refine ⟨a,b,h1,h2,f1,by have:=Nat.two_pow_pos K;omega, ?_,f4,f5⟩
 have e:(a:Int)*((2 ^ K:Nat):Int)=((Fq.vV Ieee.double m:Nat):Int)*(b:Int):=by rw [← Int.natCast_mul,f2,Int.natCast_mul]
 rw [f3];unfold rvI
 cases s
 ·rw [if_neg (by decide),if_neg (by decide)];exact e
 ·rw [if_pos rfl,if_pos rfl,Int.neg_mul,e,Int.neg_mul]
theorem rvI_mul (s:Bool) (a b:Nat):rvI s (a*b)=rvI s a*(b:Int):=by
 unfold rvI;cases s
 ·rw [if_neg (by decide),if_neg (by decide),Int.natCast_mul]
 ·rw [if_pos rfl,if_pos rfl,Int.natCast_mul,Int.neg_mul]
theorem frac_x (x D a' b':Nat) (ng neg:Bool) (hD:D≠0) (hF:FracOf x D 0 a' b') (hn:x≠0→ng=neg):rvI ng a'*(D:Int)=rvI neg x*(b':Int):=by
 have h:=frac_ratio x D a' b' hD hF
 by_cases z:x=0
 ·have z':=hF.2.1.2 z
  rw [z,z'];unfold rvI;simp
 ·rw [hn z,← rvI_mul,← rvI_mul,h]
theorem blen_mulX (u v N1 N2:Nat) (h1:blen u≤N1) (h2:blen v≤N2):blen (u*v)≤N1+N2:=by
 rw [blen_le_iff,Nat.pow_add]
 exact Nat.mul_lt_mul'' ((blen_le_iff u N1).1 h1) ((blen_le_iff v N2).1 h2)
theorem rcmpW6_ s p l c q k d s2 p2 l2 c2 q2 k2 d2 (a b x y:Nat) (B1 B2:Nat) (w:World) (h1:Own w B1 (.slice p l c) (dig a)) (h2:Own w B1 (.slice q k d) (dig b)) (h3:Own w B2 (.slice p2 l2 c2) (dig x)) (h4:Own w B2 (.slice q2 k2 d2) (dig y)) (zb:b≠0) (zy:y≠0) (la:blen a≤3100000) (lb:blen b≤3100000) (lx:blen x≤3100000) (ly:blen y≤3100000):Calls Tryz.prog 33 #[.agg #[.bool s,.slice p l c,.slice q k d],.agg #[.bool s2,.slice p2 l2 c2,.slice q2 k2 d2]] w fun e w'=>e=.returned (.int .i64 (cmI (rvI s a*y) (rvI s2 x*b)))∧Kp w w':=by
 have hs1:∀ W:World,Kp w W→Calls Tryz.prog 30 #[.agg #[.bool s,.slice p l c,.slice q k d]] W fun e w'=>e=.returned (.int .i64 (if a=0 then 0 else if s then -1 else 1))∧Kp W w':=fun W g=>rsign_ s _ _ a W (h1.kp g).ls (by omega)
 have hs2:∀ W:World,Kp w W→Calls Tryz.prog 30 #[.agg #[.bool s2,.slice p2 l2 c2,.slice q2 k2 d2]] W fun e w'=>e=.returned (.int .i64 (if x=0 then 0 else if s2 then -1 else 1))∧Kp W w':=fun W g=>rsign_ s2 _ _ x W (h3.kp g).ls (by omega)
 have len:∀ z:Nat,blen z≤3100000→len32 z≤16777216:=fun z hz=>Nat.le_trans (dlen z 131072 (by omega)) (by decide)
 have hT1:∀ W:World,Kp w W→Calls Tryz.prog 70 #[.slice p l c,.slice q2 k2 d2] W fun e w'=>∃ v,e=.returned v∧Ls w' v (dig (a*y))∧Kp W w':=fun W g=>(timesW _ _ a y W (h1.kp g).ls (h4.kp g).ls (len a la) (len y ly)).mono (fun e w' ⟨pp,cc,e1,ar,ll,g2⟩=>⟨_,e1,⟨pp,cc,rfl,ar,ll⟩,g2⟩)
 have hT2:∀ W:World,Kp w W→Calls Tryz.prog 70 #[.slice p2 l2 c2,.slice q k d] W fun e w'=>∃ v,e=.returned v∧Ls w' v (dig (x*b))∧Kp W w':=fun W g=>(timesW _ _ x b W (h3.kp g).ls (h2.kp g).ls (len x lx) (len b lb)).mono (fun e w' ⟨pp,cc,e1,ar,ll,g2⟩=>⟨_,e1,⟨pp,cc,rfl,ar,ll⟩,g2⟩)
 have bl:∀ u v:Nat,blen u≤3100000→blen v≤3100000→blen (u*v)≤33554432:=fun u v h1 h2=>by
  obtain ⟨T5,hT5⟩:∃ T5:Nat,T5=3100000:=⟨_,rfl⟩
  have g:blen (u*v)≤T5+T5:=by
   rw [blen_le_iff,Nat.pow_add]
   exact Nat.mul_lt_mul'' ((blen_le_iff u T5).1 (by omega)) ((blen_le_iff v T5).1 (by omega))
  omega
 have hC:∀ (W:World) (u v:Value),Kp w W→Ls W u (dig (a*y))→Ls W v (dig (x*b))→Calls Tryz.prog 71 #[u,v] W fun e w'=>e=.returned (.int .i64 (cmpN (a*y) (x*b)))∧Kp W w':=fun W u v _ g1 g2=>cmpR u v (a*y) (x*b) W g1 g2 (bl a y la ly) (bl x b lx lb)
 have hk:∀ (W W':World) (v:Value),Kp W W'→Ls W v (dig (a*y))→Ls W' v (dig (a*y)):=fun W W' v g h=>h.kp g
 have py:0<y:=by omega
 have pb:0<b:=by omega
 have key:∀ u v:Nat,0<v→0<u→0<u*v:=fun u v h1 h2=>Nat.mul_pos h2 h1
 obtain ⟨A9,hA9⟩:∃ A9,A9=a*y:=⟨_,rfl⟩
 obtain ⟨X9,hX9⟩:∃ X9,X9=x*b:=⟨_,rfl⟩
 have eA:rvI s a*(y:Int)=rvI s A9:=by unfold rvI;rw [hA9];cases s <;> simp [Int.neg_mul]
 have eX:rvI s2 x*(b:Int)=rvI s2 X9:=by unfold rvI;rw [hX9];cases s2 <;> simp [Int.neg_mul]
 have zA:a=0 ↔ A9=0:=by rw [hA9];constructor <;> intro h;rw [h];simp;rcases Nat.mul_eq_zero.1 h with h | h;exact h;omega
 have zX:x=0 ↔ X9=0:=by rw [hX9];constructor <;> intro h;rw [h];simp;rcases Nat.mul_eq_zero.1 h with h | h;exact h;omega
 rw [eA,eX]
 rw [← hA9] at hT1 hC hk
 rw [← hX9] at hT2 hC
 simp only [zA] at hs1
 simp only [zX] at hs2
 obtain ⟨S,hS⟩:∃ S:Int,S=if A9=0 then 0 else if s then -1 else 1:=⟨_,rfl⟩
 obtain ⟨U,hU⟩:∃ U:Int,U=if X9=0 then 0 else if s2 then -1 else 1:=⟨_,rfl⟩
 rw [← hS] at hs1
 rw [← hU] at hs2
 have hcm:cmpN A9 X9=cmI (A9:Int) X9:=by
  unfold cmpN cmI
  by_cases c1:A9<X9
  ·rw [if_pos c1,if_pos (show (A9:Int)<X9 by omega)]
  ·rw [if_neg c1,if_neg (show ¬ (A9:Int)<X9 by omega)]
   by_cases c2:X9<A9
   ·rw [if_pos c2,if_pos (show (X9:Int)<A9 by omega)]
   ·rw [if_neg c2,if_neg (show ¬ (X9:Int)<A9 by omega)]
 clear eA eX zA zX hA9 hX9 h1 h2 h3 h4
 have e1:S<U→cmI (rvI s A9) (rvI s2 X9) = -1:=fun g=>by
  rw [hS,hU] at g
  unfold cmI rvI
  rw [if_pos]
  by_cases c1:A9=0 <;> by_cases c2:X9=0 <;> cases s <;> cases s2 <;> simp [c1,c2] at g ⊢ <;> omega
 have e2:U<S→cmI (rvI s A9) (rvI s2 X9)=1:=fun g=>by
  rw [hS,hU] at g
  have:rvI s2 X9<rvI s A9:=by
   unfold rvI
   by_cases c1:A9=0 <;> by_cases c2:X9=0 <;> cases s <;> cases s2 <;> simp [c1,c2] at g ⊢ <;> omega
  unfold cmI
  rw [if_neg (by omega),if_pos this]
 rcases Int.lt_trichotomy S U with g | g | g
 ·rw [e1 g]
  exact rcmpL_ S U s p l c q k d s2 p2 l2 c2 q2 k2 d2 w hs1 hs2 g
 ·rw [← g] at hs2
  by_cases z:A9=0
  ·have zU:X9=0:=by
    rw [hS,hU,if_pos z] at g
    by_cases c2:X9=0
    ·exact c2
    ·rw [if_neg c2] at g;cases s2 <;> simp at g
   have e3:cmI (rvI s A9) (rvI s2 X9)=0:=by rw [z,zU];cases s <;> cases s2 <;> rfl
   rw [e3]
   exact rcmpZ_ S _ _ _ s p l c q k d s2 p2 l2 c2 q2 k2 d2 w hk hs1 hs2 hT1 hT2 hC (by rw [hS,if_pos z];rfl)
  ·have zS:(S == 0)=false:=by rw [hS,if_neg z];cases s <;> rfl
   have ss:s=s2:=by
    rw [hS,hU,if_neg z] at g
    by_cases c2:X9=0
    ·rw [if_pos c2] at g;cases s <;> simp at g
    ·rw [if_neg c2] at g;cases s <;> cases s2 <;> simp at g ⊢
   subst ss
   cases s
   ·have e3:cmI (rvI false A9) (rvI false X9)=cmpN A9 X9:=hcm.symm
    rw [e3]
    exact rcmpP_ S _ _ _ p l c q k d false p2 l2 c2 q2 k2 d2 w hk hs1 hs2 hT1 hT2 hC zS
   ·have e3:cmI (rvI true A9) (rvI true X9) = - cmpN A9 X9:=by
     rw [hcm];unfold cmI rvI
     by_cases c1:A9<X9
     ·rw [if_neg (by simp;omega),if_pos (by simp;omega),if_pos (by omega)];rfl
     ·by_cases c2:X9<A9
      ·rw [if_pos (by simp;omega),if_neg (by omega),if_pos (by omega)]
      ·rw [if_neg (by simp;omega),if_neg (by simp;omega),if_neg (by omega),if_neg (by omega)];rfl
    have wr:IntKind.i64.wrap (-(cmpN A9 X9)) = -(cmpN A9 X9):=by
     rw [hcm];unfold cmI
     by_cases c1:(A9:Int)<X9
     ·rw [if_pos c1];decide +kernel
     ·rw [if_neg c1]
      by_cases c2:(X9:Int)<A9
      ·rw [if_pos c2];decide +kernel
      ·rw [if_neg c2];decide +kernel
    rw [e3]
    exact rcmpN_ S _ _ _ p l c q k d true p2 l2 c2 q2 k2 d2 w hk hs1 hs2 hT1 hT2 hC zS wr
 ·rw [e2 g]
  exact rcmpG_ S U s p l c q k d s2 p2 l2 c2 q2 k2 d2 w hs1 hs2 g
theorem xcmp_ (B1 B2:Nat) (V V':Int) (C C' N N':Nat) (hN:N≤3100000) (hN':N'≤3100000) s p l c q k d s2 p2 l2 c2 q2 k2 d2 (w:World) (h1:XP B1 w s p l c q k d V C N) (h2:XP B2 w s2 p2 l2 c2 q2 k2 d2 V' C' N'):Calls Tryz.prog 33 #[.agg #[.bool s,.slice p l c,.slice q k d],.agg #[.bool s2,.slice p2 l2 c2,.slice q2 k2 d2]] w fun e w'=>e=.returned (.int .i64 (cmI (V*(C':Int)) (V'*(C:Int))))∧Kp w w':=by
 obtain ⟨a,b,o1,o2,zb,zc,i1,j1,j2⟩:=h1
 obtain ⟨x,y,o3,o4,zy,zc',i2,j3,j4⟩:=h2
 have h:=rcmpW6_ s p l c q k d s2 p2 l2 c2 q2 k2 d2 a b x y B1 B2 w o1 o2 o3 o4 zb zy (by omega) (by omega) (by omega) (by omega)
 have e:cmI (rvI s a*(y:Int)) (rvI s2 x*(b:Int))=cmI (V*(C':Int)) (V'*(C:Int)):=by
  have pk:(0:Int)<(C:Int)*(C':Int):=Int.mul_pos (by omega) (by omega)
  have pb:(0:Int)<(b:Int)*(y:Int):=Int.mul_pos (by omega) (by omega)
  rw [← cmI_scale _ _ _ pk,← cmI_scale (V*(C':Int)) (V'*(C:Int)) _ pb]
  have e1:rvI s a*(y:Int)*((C:Int)*(C':Int))=rvI s a*(C:Int)*((y:Int)*(C':Int)):=by ac_rfl
  have e2:rvI s2 x*(b:Int)*((C:Int)*(C':Int))=rvI s2 x*(C':Int)*((b:Int)*(C:Int)):=by ac_rfl
  rw [e1,e2,i1,i2]
  have e3:V*(b:Int)*((y:Int)*(C':Int))=V*(C':Int)*((b:Int)*(y:Int)):=by ac_rfl
  have e4:V'*(y:Int)*((b:Int)*(C:Int))=V'*(C:Int)*((b:Int)*(y:Int)):=by ac_rfl
  rw [e3,e4]
 rw [e] at h
 exact h
theorem XF.add (s s' ng:Bool) (a1 a2 b1 b2 a' b':Nat) (V V':Int) (C C' N N' M:Nat) (h1:XF s a1 a2 V C N) (h2:XF s' b1 b2 V' C' N') (hb:b'≠0) (h:rvI ng a'*((a2:Int)*(b2:Int))=(rvI s a1*(b2:Int)+rvI s' b1*(a2:Int))*(b':Int)) (m1:blen a'≤M) (m2:blen b'≤M):XF ng a' b' (V*(C':Int)+V'*(C:Int)) (C*C') M:=by
 obtain ⟨za,zc,i1,-,-⟩:=h1
 obtain ⟨zb,zc',i2,-,-⟩:=h2
 refine ⟨hb,Nat.mul_ne_zero zc zc', ?_,m1,m2⟩
 have pn:(a2:Int)*(b2:Int)≠0:=by have:(0:Int)<(a2:Int)*(b2:Int):=Int.mul_pos (by omega) (by omega);omega
 refine Int.eq_of_mul_eq_mul_right pn ?_
 rw [Int.natCast_mul]
 have e1:rvI ng a'*((C:Int)*(C':Int))*((a2:Int)*(b2:Int))=rvI ng a'*((a2:Int)*(b2:Int))*((C:Int)*(C':Int)):=by ac_rfl
 rw [e1,h]
 simp only [Int.add_mul]
 have e2:rvI s a1*(b2:Int)*(b':Int)*((C:Int)*(C':Int))=rvI s a1*(C:Int)*((b2:Int)*(b':Int)*(C':Int)):=by ac_rfl
 have e3:rvI s' b1*(a2:Int)*(b':Int)*((C:Int)*(C':Int))=rvI s' b1*(C':Int)*((a2:Int)*(b':Int)*(C:Int)):=by ac_rfl
 rw [e2,e3,i1,i2]
 have e4:V*(a2:Int)*((b2:Int)*(b':Int)*(C':Int))=V*(C':Int)*(b':Int)*((a2:Int)*(b2:Int)):=by ac_rfl
 have e5:V'*(b2:Int)*((a2:Int)*(b':Int)*(C:Int))=V'*(C:Int)*(b':Int)*((a2:Int)*(b2:Int)):=by ac_rfl
 rw [e4,e5]
theorem XF.quo (s s' ng:Bool) (a1 a2 b1 b2 a' b':Nat) (V:Int) (U:Nat) (t:Bool) (C C' N N' M:Nat) (h1:XF s a1 a2 V C N) (h2:XF s' b1 b2 (rvI t U) C' N') (hU:U≠0) (hb:b'≠0) (h:rvI ng a'*((a2:Int)*(b1:Int))=rvI (s ^^ s') (a1*b2)*(b':Int)) (m1:blen a'≤M) (m2:blen b'≤M):XF ng a' b' (rvI t 1*V*(C':Int)) (C*U) M:=by
 obtain ⟨za,zc,i1,-,-⟩:=h1
 obtain ⟨zb,zc',i2,-,-⟩:=h2
 have hU':(0:Int)<(U:Int):=by omega
 have hC':(0:Int)<(C':Int):=by omega
 have hb2:(0:Int)<(b2:Int):=by omega
 have q1:(0:Int)<(U:Int)*(b2:Int):=Int.mul_pos hU' hb2
 have key:s'=t∧(b1:Int)*(C':Int)=(U:Int)*(b2:Int):=by
  have q2:(0:Int)≤(b1:Int)*(C':Int):=Int.mul_nonneg (by omega) (by omega)
  unfold rvI at i2
  cases s' <;> cases t <;> simp [Int.neg_mul] at i2 ⊢ <;> omega
 obtain ⟨rfl,i3⟩:=key
 have zb1:(0:Int)<(b1:Int):=by
  rcases Nat.eq_zero_or_pos b1 with z | z
  ·rw [z] at i3;simp at i3;omega
  ·omega
 refine ⟨hb,Nat.mul_ne_zero zc hU, ?_,m1,m2⟩
 have pn:(a2:Int)*(b1:Int)≠0:=by have:(0:Int)<(a2:Int)*(b1:Int):=Int.mul_pos (by omega) (by omega);omega
 refine Int.eq_of_mul_eq_mul_right pn ?_
 refine Int.eq_of_mul_eq_mul_right (show (b2:Int)≠0 by omega) ?_
 rw [Int.natCast_mul]
 have e0:rvI (s ^^ s') (a1*b2)=rvI s' 1*(rvI s a1*(b2:Int)):=by unfold rvI;cases s <;> cases s' <;> simp [Int.neg_mul]
 have e1:rvI ng a'*((C:Int)*(U:Int))*((a2:Int)*(b1:Int))*(b2:Int)=rvI ng a'*((a2:Int)*(b1:Int))*((C:Int)*((U:Int)*(b2:Int))):=by ac_rfl
 rw [e1,h,← i3,e0]
 have e2:rvI s' 1*(rvI s a1*(b2:Int))*(b':Int)*((C:Int)*((b1:Int)*(C':Int)))=(rvI s a1*(C:Int))*(rvI s' 1*(b2:Int)*(b':Int)*(b1:Int)*(C':Int)):=by ac_rfl
 rw [e2,i1];ac_rfl

end Go.Proofs.YtcfnialfpblfmaaGreatDoor
