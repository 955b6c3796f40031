import Derived.Test.YtcfnialfpblfmaaGreatDoorKWSb
import Derived.RangeFuncRecord
set_option maxHeartbeats 1000000
set_option maxRecDepth 20000
namespace Go.Proofs.YtcfnialfpblfmaaGreatDoor
open Go.RowKit
set_option linter.unusedVariables false
theorem rpower0_ (p:Option Addr) (c m:Nat) (xs:List Int) (w:World) (hx:Arr w p xs) (hwx:Wd xs) (lx:xs.length≤16777216) (ha:val xs≤0) (hK:len32 (val xs ^ m)≤16777216) (hm9:m≤1048576) :
  Calls Tryz.prog 68 #[.slice p xs.length c,.int .i64 (m:Int)] w fun e w'=>∃ v,e=.returned v∧Own w' w.heap.size v (dig (val xs ^ m))∧Kp w w':=by
 have hno:=fun w' (k:Kp w w')=>rnorm_ p c xs w' (hx.grown k) (by omega)
 have htm:∀ (x y:Nat) (p1 p2:Option Addr) (c1 c2:Nat) (w':World),len32 x≤16777216→len32 y≤16777216→Arr w' p1 (dig x)→Arr w' p2 (dig y) →
   Calls Tryz.prog 70 #[.slice p1 (dig x).length c1,.slice p2 (dig y).length c2] w' fun e w''=>∃ v,e=.returned v∧Own w'' w'.heap.size v (dig (x*y))∧Kp w' w'':=fun x y p1 p2 c1 c2 w' hx hy h1 h2=>by
  have:=rtimes_ p1 p2 c1 c2 (dig x) (dig y) w' h1 h2 (Wd_dig _) (Wd_dig _) hx hy
  rw [val_dig,val_dig] at this
  exact this
 have HT:Hid (∀ (x y:Nat) (p1 p2:Option Addr) (c1 c2:Nat) (w':World),len32 x≤16777216→len32 y≤16777216→Arr w' p1 (dig x)→Arr w' p2 (dig y) →
   Calls Tryz.prog 70 #[.slice p1 (dig x).length c1,.slice p2 (dig y).length c2] w' fun e w''=>∃ v,e=.returned v∧Own w'' w'.heap.size v (dig (x*y))∧Kp w' w''):=htm
 rw [nz_dig xs hwx] at hno
 obtain ⟨a,hA⟩:∃ a,a=val xs:=⟨_,rfl⟩
 obtain ⟨N,hN⟩:∃ N,N=xs.length:=⟨_,rfl⟩
 rw [← hA] at hno ha hK ⊢
 rw [← hN] at hno ⊢
 obtain ⟨R,hR⟩:∃ R,R=a ^ m:=⟨_,rfl⟩
 rw [← hR] at hK ⊢
 have hO1:=own1 w
 have hk1:Kp w (w.alloc (.cells #[.int .u32 1] 81)):=(Kp.refl w).alloc _
 have h1:=hno _ hk1
 have HR:Hid (R=a ^ m∧len32 R≤16777216∧a≤0):=⟨hR,hK,ha⟩
 clear htm hno hx hwx lx hA hN hR hK ha
 go_enter Tryz.func68,Tryz.ntmps68
 go_wp2_with fail
 refine h1.mono ?_;rintro e w1 ⟨v1,rfl,hOx,hk2⟩
 have HO:Hid (Own w1 w.heap.size (.slice (some ⟨w.heap.size,0,none⟩) 1 1) (dig 1)∧Own w1 w.heap.size v1 (dig a)∧Kp w w1):=⟨by rw [dig_one];exact hO1.kp hk2,hOx.mono hk1.size,hk1.trans hk2⟩
 clear h1 hOx hk2 hO1 hk1
 go_wp2
 go_loopw [1,5,6] (fun nn pp xx wr=>∃ (k P X:Nat) (v u:Value),nn=.int .i64 (k:Int)∧v=pp∧u=xx∧Own wr w.heap.size v (dig P)∧Own wr w.heap.size u (dig X)∧P*X ^ k=R∧P≤1∧X≤0∧Kp w wr∧k≤m) (fun nn _ _ _=>(intOf nn).toNat)
 case atStart=>exact ⟨m,1,a,_,_,rfl,rfl,rfl,HO.out.1,HO.out.2.1,by rw [Nat.one_mul];exact HR.out.1.symm,Nat.le_refl _,HR.out.2.2,HO.out.2.2,Nat.le_refl _⟩
 case round =>
  clear HO
  obtain ⟨k,P,X,v,u,rfl,rfl,rfl,hOp,hOx,hPX,hP,hX,hkp,hkm⟩:=hrel
  by_cases ck:k=0
  ·subst ck
   rw [Nat.pow_zero,Nat.mul_one] at hPX
   subst hPX
   clear HT HR hP hX hOx
   go_wp2
   exact BR (v:=v) (by simp [results,Tryz.results68,go_sem] <;> simp only [*]) rfl ⟨_,rfl,hOp,hkp⟩
  ·have t1:(0:Int)<(k:Int):=by omega
   have hlR:=HR.out.2.1
   have hXk:True:=trivial
   have hXk1:True:=trivial
   have hPR:True:=trivial
   have hXR:True:=trivial
   have lP:len32 P≤16777216:=Nat.le_trans (len32_mono hP) (by rw [len32_one];decide)
   have lX:len32 X≤16777216:=Nat.le_trans (len32_mono (show X≤1 by omega)) (by rw [len32_one];decide)
   obtain ⟨h,hh⟩:∃ h,h=k / 2:=⟨_,rfl⟩
   have fh:(k:Int) / 2=(h:Int):=by omega
   have hhb:h≤1048576:=by omega
   obtain ⟨p1,c1,rfl,hAp,_⟩:=hOp.arr
   obtain ⟨p2,c2,rfl,hAx,_⟩:=hOx.arr
   have hX2:X*X=X ^ 2:=by rw [Nat.pow_succ,Nat.pow_one]
   have hXX:X*X≤0:=by rw [show X=0 by omega];exact Nat.le_refl _
   have hhk:h<k:=by omega
   have hsq:=fun w' (k':Kp wr w')=>HT.out X X p2 p2 c2 c2 w' lX lX (hAx.grown k') (hAx.grown k')
   obtain ⟨DX,hDX⟩:∃ DX,DX=(dig X).length:=⟨_,rfl⟩
   rcases (by omega:k % 2=0∨k % 2=1) with ce | ce
   ·have fm:(k:Int) % 2=0:=by omega
    have hPX2:P*(X*X) ^ h=R:=by rw [hX2,← Nat.pow_mul,show 2*h=k from by omega];exact hPX
    rw [← hDX] at hsq
    obtain ⟨DP,hDP⟩:∃ DP,DP=(dig P).length:=⟨_,rfl⟩
    have hOp2:Own wr w.heap.size (.slice p1 DP c1) (dig P):=by rw [hDP];exact hOp
    have hOx2:Own wr w.heap.size (.slice p2 DX c2) (dig X):=by rw [hDX];exact hOx
    rw [← hDX,← hDP]
    clear hOp hOx hDX hDP HR hXk hXk1 hPR hXR lP lX hAp hAx hlR HT hPX
    have hne:h≠0:=by omega
    clear hh
    by_cases c0:h=0
    ·exact absurd c0 hne
    ·have t2:(0:Int)<(h:Int):=by omega
     have h2:=hsq wr (Kp.refl _)
     clear hsq hX2
     go_wp2_with fail
     refine h2.mono ?_;rintro e w3 ⟨v3,rfl,hO3,hk3⟩
     have hO4:Own w3 w.heap.size v3 (dig (X*X)):=hO3.mono hkp.size
     have hO5:=hOp2.kp hk3
     have hk5:=hkp.trans hk3
     clear hO3 hk3 hkp hOp2 hOx2 h2
     go_wp2
     exact ⟨⟨h,P,X*X,_,_,by go_num,rfl,rfl,hO5,hO4,hPX2,hP,hXX,hk5,by omega⟩,by simp [intOf];omega⟩
   ·have fm:(k:Int) % 2=1:=by omega
    have hPX2:(P*X)*(X*X) ^ h=R:=by
     rw [hX2,← Nat.pow_mul,Nat.mul_assoc,Nat.mul_comm X,← Nat.pow_succ,show (2*h).succ=k from by omega];exact hPX
    have h2:=HT.out P X p1 p2 c1 c2 wr lP lX hAp hAx
    rw [← hDX] at hsq h2
    obtain ⟨DP,hDP⟩:∃ DP,DP=(dig P).length:=⟨_,rfl⟩
    rw [← hDP] at h2
    have hOx2:Own wr w.heap.size (.slice p2 DX c2) (dig X):=by rw [hDX];exact hOx
    rw [← hDX,← hDP]
    have hPX1:P*X≤1:=by rw [show X=0 by omega];simp
    clear hh
    clear hOp hOx hDX hDP HR hXk hXk1 hPR hXR lP lX hAp hAx hlR HT hPX
    go_wp2_with fail
    refine h2.mono ?_;rintro e w3 ⟨v3,rfl,hO3,hk3⟩
    have h4:=hsq w3 hk3
    have hO4:Own w3 w.heap.size v3 (dig (P*X)):=hO3.mono hkp.size
    have hO5:=hOx2.kp hk3
    have hk5:=hkp.trans hk3
    clear hO3 hk3 hkp hOx2 h2 hsq hX2
    by_cases c0:h=0
    ·have t2:¬ ((0:Int)<(h:Int)):=by omega
     clear h4
     go_wp2
     exact ⟨⟨h,P*X,X,_,_,by go_num,rfl,rfl,hO4,hO5,by rw [← hPX2,c0,Nat.pow_zero,Nat.pow_zero],hPX1,hX,hk5,by omega⟩,by simp [intOf];omega⟩
    ·have t2:(0:Int)<(h:Int):=by omega
     go_wp2_with fail
     refine h4.mono ?_;rintro e w4 ⟨v4,rfl,hO6,hk6⟩
     have hO7:Own w4 w.heap.size v4 (dig (X*X)):=hO6.mono hk5.size
     have hO8:=hO4.kp hk6
     have hk7:=hk5.trans hk6
     clear hO6 hk6 hk5 hO4 hO5 h4
     go_wp2
     exact ⟨⟨h,P*X,X*X,_,_,by go_num,rfl,rfl,hO8,hO7,hPX2,hPX1,hXX,hk7,by omega⟩,by simp [intOf];omega⟩
theorem rpowX9_ (sa:Bool) (a1 a2 k:Nat) (P1 P2:Option Addr) (C1 C2:Nat) (w:World) (h1:Arr w P1 (dig a1)) (_l1:(dig a1).length≤C1) (h2:Arr w P2 (dig a2)) (_l2:(dig a2).length≤C2) (k1:blen a1≤1500) (k2:blen a2≤1500) (z2:a2≠0) (hk:k≤1024) (X D:Nat) (hX:X=a1 ^ k) (hD:D=a2 ^ k) (ob:Bool) (hob:ob=decide (k % 2=1)) :
  Calls Tryz.prog 29 #[.agg #[.bool sa,.slice P1 (dig a1).length C1,.slice P2 (dig a2).length C2],.int .i64 (k:Int)] w fun e w'=>∃ (vn vd:Value) (a' b':Nat) (ng:Bool),e=.returned (.agg #[.bool ng,vn,vd])∧Own w' w.heap.size vn (dig a')∧Own w' w.heap.size vd (dig b')∧(FracT X D 0 a' b'∧(X≠0→ng=(sa && ob)))∧Kp w w':=by
 have hz:D≠0:=by rw [hD];exact Nat.ne_of_gt (Nat.pow_pos (by omega))
 have bp:∀ a:Nat,blen a≤1500→len32 (a ^ k)≤65536:=fun a ha=>dlen _ _ (by
  have h:blen (a ^ k)≤1500*k+1:=by
   rw [blen_le_iff]
   obtain ⟨T5,hT5⟩:∃ T5:Nat,T5=1500:=⟨_,rfl⟩
   rw [← hT5] at ha ⊢
   have h1:a ^ k≤(2 ^ T5) ^ k:=Nat.pow_le_pow_left (Nat.le_of_lt ((blen_le_iff a T5).1 ha)) k
   rw [← Nat.pow_mul] at h1
   have h2:2 ^ (T5*k)<2 ^ (T5*k+1):=Nat.pow_lt_pow_right (by decide) (by omega)
   omega
  omega)
 have lX:len32 X≤65536:=by rw [hX];exact bp a1 k1
 have lD:len32 D≤65536:=by rw [hD];exact bp a2 k2
 have la1:len32 a1≤4000:=dlen a1 4000 (by omega)
 have la2:len32 a2≤4000:=dlen a2 4000 (by omega)
 obtain ⟨E1,g1⟩:∃ E,E=(dig a1).length:=⟨_,rfl⟩
 obtain ⟨E2,g2⟩:∃ E,E=(dig a2).length:=⟨_,rfl⟩
 rw [← g1,← g2]
 obtain ⟨B,hB⟩:∃ B,B=w.heap.size:=⟨_,rfl⟩
 obtain ⟨wA,hwA⟩:∃ wA,wA=w.alloc (.cells #[.bool sa,.slice P1 E1 C1,.slice P2 E2 C2] 43):=⟨_,rfl⟩
 obtain ⟨w0,hw0⟩:∃ w0,w0=wA.alloc (.cells #[.bool false,.slice none 0 0,.slice none 0 0] 43):=⟨_,rfl⟩
 have sA:wA.heap.size=B+1:=by rw [hwA,hB];simp
 obtain ⟨x0,x1,x2⟩:wA.cell? ⟨B,0,none⟩=some (.bool sa)∧wA.cell? ⟨B,1,none⟩=some (.slice P1 E1 C1)∧wA.cell? ⟨B,2,none⟩=some (.slice P2 E2 C2):=by rw [hwA,hB];simp [go_sem]
 obtain ⟨r0,r1,r2,f0,f1,f2⟩:w0.cell? ⟨B+1,0,none⟩=some (.bool false)∧w0.cell? ⟨B+1,1,none⟩=some (.slice none 0 0)∧w0.cell? ⟨B+1,2,none⟩=some (.slice none 0 0)∧w0.frozen? ⟨B+1,0,none⟩=false∧w0.frozen? ⟨B+1,1,none⟩=false∧w0.frozen? ⟨B+1,2,none⟩=false:=by rw [hw0,← sA];simp [go_sem]
 have kw:Kp w w0:=by rw [hw0,hwA];exact ((Kp.refl w).alloc _).alloc _
 have kS:Kp wA w0:=by rw [hw0];exact (Kp.refl wA).alloc _
 have kD:Kp wA w0.drew:=kS.drew
 have hge:wA.heap.size≤(⟨B+1,0,none⟩:Addr).block:=by simp only;omega
 have hlt:=cell_lt r0
 have pwr:∀ (a:Nat) (p:Option Addr) (c:Nat) (W:World),Arr W p (dig a)→len32 a≤4000→len32 (a ^ k)≤65536→Calls Tryz.prog 68 #[.slice p (dig a).length c,.int .i64 (k:Int)] W fun e w'=>∃ p c,e=.returned (.slice p (dig (a ^ k)).length c)∧Arr w' p (dig (a ^ k))∧(dig (a ^ k)).length≤c∧Kp W w':=fun a p c W ar la lp=>by
  have h:Calls Tryz.prog 68 #[.slice p (dig a).length c,.int .i64 (k:Int)] W fun e w'=>∃ v,e=.returned v∧Own w' W.heap.size v (dig (val (dig a) ^ k))∧Kp W w':=by
   rcases Nat.eq_zero_or_pos a with h0 | h0
   ·exact rpower0_ p c k (dig a) W ar (Wd_dig a) (by change len32 a≤_;omega) (by rw [val_dig];omega) (by rw [val_dig];omega) (by omega)
   ·exact rpower1_ p c k (dig a) W ar (Wd_dig a) (by change len32 a≤_;omega) (by rw [val_dig];omega) (by rw [val_dig];omega) (by omega)
  rw [val_dig] at h
  refine h.mono ?_
  rintro e w' ⟨v,h1,h2,h3⟩
  obtain ⟨p,c,rfl,h4,h5⟩:=h2.arr
  exact ⟨p,c,h1,h4,h5,h3⟩
 have HP1:Hid (∀ W:World,Kp w0 W→Calls Tryz.prog 68 #[.slice P1 E1 C1,.int .i64 (k:Int)] W fun e w'=>∃ p c,e=.returned (.slice p (dig X).length c)∧Arr w' p (dig X)∧(dig X).length≤c∧Kp W w'):=by
  show ∀ W:World,Kp w0 W→Calls Tryz.prog 68 #[.slice P1 E1 C1,.int .i64 (k:Int)] W fun e w'=>∃ p c,e=.returned (.slice p (dig X).length c)∧Arr w' p (dig X)∧(dig X).length≤c∧Kp W w'
  intro W kk
  rw [hX,g1];exact pwr a1 P1 C1 W (h1.grown (kw.trans kk)) la1 (by rw [← hX];exact lX)
 have HP2:Hid (∀ W:World,Kp w0 W→Calls Tryz.prog 68 #[.slice P2 E2 C2,.int .i64 (k:Int)] W fun e w'=>∃ p c,e=.returned (.slice p (dig D).length c)∧Arr w' p (dig D)∧(dig D).length≤c∧Kp W w'):=by
  show ∀ W:World,Kp w0 W→Calls Tryz.prog 68 #[.slice P2 E2 C2,.int .i64 (k:Int)] W fun e w'=>∃ p c,e=.returned (.slice p (dig D).length c)∧Arr w' p (dig D)∧(dig D).length≤c∧Kp W w'
  intro W kk
  rw [hD,g2];exact pwr a2 P2 C2 W (h2.grown (kw.trans kk)) la2 (by rw [← hD];exact lD)
 obtain ⟨NX,hNX⟩:∃ N,N=(dig X).length:=⟨_,rfl⟩
 obtain ⟨ND,hND⟩:∃ N,N=(dig D).length:=⟨_,rfl⟩
 obtain ⟨st,hst⟩:∃ st,st=(sa && ob):=⟨_,rfl⟩
 have HFR:Hid (∀ (p:Option Addr) (c:Nat) (q:Option Addr) (d:Nat) (W:World),Kp w0 W→Arr W p (dig X)→(dig X).length≤c→Arr W q (dig D)→(dig D).length≤d→Calls Tryz.prog 66 #[.bool st,.slice p (dig X).length c,.slice q (dig D).length d,.int .i64 0] W fun e w'=>∃ (vn vd:Value) (a' b':Nat) (ng:Bool),e=.returned (.agg #[.bool ng,vn,vd])∧Own w' W.heap.size vn (dig a')∧Own w' W.heap.size vd (dig b')∧(FracT X D 0 a' b'∧(X≠0→ng=st))∧Kp W w'):=by
  show ∀ (p:Option Addr) (c:Nat) (q:Option Addr) (d:Nat) (W:World),Kp w0 W→Arr W p (dig X)→(dig X).length≤c→Arr W q (dig D)→(dig D).length≤d→Calls Tryz.prog 66 #[.bool st,.slice p (dig X).length c,.slice q (dig D).length d,.int .i64 0] W fun e w'=>∃ (vn vd:Value) (a' b':Nat) (ng:Bool),e=.returned (.agg #[.bool ng,vn,vd])∧Own w' W.heap.size vn (dig a')∧Own w' W.heap.size vd (dig b')∧(FracT X D 0 a' b'∧(X≠0→ng=st))∧Kp W w'
  intro p c q d W kk ar ll ar' ll'
  have g:=fracW_ st (.slice p (dig X).length c) (.slice q (dig D).length d) (dig X) (dig D) 0 W ⟨p,c,rfl,ar,ll⟩ ⟨q,d,rfl,ar',ll'⟩ (Wd_dig _) (Wd_dig _) (by change len32 _≤_;omega) (by change len32 _≤_;omega) (by rw [val_dig];exact hz) (by decide)
  rw [val_dig,val_dig] at g
  exact g
 rw [← hNX,← hND] at HFR
 rw [← hNX] at HP1
 rw [← hND] at HP2
 rw [← hst]
 have HW:Hid (w0=wA.alloc (.cells #[.bool false,.slice none 0 0,.slice none 0 0] 43)∧wA=w.alloc (.cells #[.bool sa,.slice P1 E1 C1,.slice P2 E2 C2] 43)∧B=w.heap.size∧Kp w w0):=⟨hw0,hwA,hB,kw⟩
 have m1:((k:Int) % 2 == 1)=ob:=by rw [hob,Bool.eq_iff_iff];simp;omega
 have m3:(k:Int).tmod 2=(k:Int) % 2:=Int.tmod_eq_emod_of_nonneg (by omega)
 clear hNX hND hw0 hwA hB sA kw h1 _l1 h2 _l2 k1 k2 z2 hX hD hz lX lD g1 g2 bp la1 la2 pwr hob
 cases sa
 ·have hst':st=false:=by rw [hst];rfl
  subst hst'
  clear hst m1 m3
  go_enter Tryz.func29,Tryz.ntmps29
  go_upto_region 1 with fail
  rw [← HW.out.2.2.1]
  try rw [← HW.out.2.1]
  try rw [← HW.out.1]
  refine wp_region_held_drew (S:=fun w'=>w'.cell? ⟨B,0,none⟩=some (.bool false)∧w'.cell? ⟨B,1,none⟩=some (.slice P1 E1 C1)∧w'.cell? ⟨B,2,none⟩=some (.slice P2 E2 C2)) (by kernel_rfl) ?hSA (fun hHeld=>?restA)
  case hSA=>(refine ⟨kkeep (W:=wA) ?_ x0,kkeep (W:=wA) ?_ x1,kkeep (W:=wA) ?_ x2⟩ <;> ((repeat (first | with_reducible exact kC | with_reducible exact kB | with_reducible exact kA | with_reducible exact kS | with_reducible exact kD | with_reducible exact Kp.refl _ | with_reducible refine Kp.drew ?_ | refine Kp.setCell ?_ hge _));done))
  refine wpAnyH_take (i:=0) (v:=?_) rfl (by kernel_rfl) (by kernel_rfl) (by kernel_rfl) (fun _ _ _ h=>h) (Or.inl ⟨by rfl, ?hy0⟩) (by assumption) ?rest0
  case hy0=>(intro w9 hSw;(try dsimp only at hSw);go_simp <;> (try with_reducible rfl))
  refine wpAnyH_take (i:=1) (v:=?_) rfl (by kernel_rfl) (by kernel_rfl) (by kernel_rfl) (fun _ _ _ h=>h) (Or.inl ⟨by rfl, ?hy1⟩) (by assumption) ?rest1
  case hy1=>(intro w9 hSw;(try dsimp only at hSw);go_simp <;> (try with_reducible rfl))
  refine wpAnyH_take (i:=2) (v:=?_) rfl (by kernel_rfl) (by kernel_rfl) (by kernel_rfl) (fun _ _ _ h=>h) (Or.inl ⟨by rfl, ?hy2⟩) (by assumption) ?rest2
  case hy2=>(intro w9 hSw;(try dsimp only at hSw);go_simp <;> (try with_reducible rfl))
  refine wpAnyH_take (i:=3) (v:=undef) rfl (by kernel_rfl) (by kernel_rfl) (by kernel_rfl) (fun _ _ _ h=>h) (Or.inr ⟨by rfl,rfl⟩) (by assumption) ?rest3
  refine wpAnyH_take (i:=4) (v:=undef) rfl (by kernel_rfl) (by kernel_rfl) (by kernel_rfl) (fun _ _ _ h=>h) (Or.inr ⟨by rfl,rfl⟩) (by assumption) ?rest4
  refine wpAnyH_take (i:=5) (v:=undef) rfl (by kernel_rfl) (by kernel_rfl) (by kernel_rfl) (fun _ _ _ h=>h) (Or.inr ⟨by rfl,rfl⟩) (by assumption) ?rest5
  refine wpAnyH_take (i:=6) (v:=?_) rfl (by kernel_rfl) (by kernel_rfl) (by kernel_rfl) (fun _ _ _ h=>h) (Or.inl ⟨by rfl, ?hy6⟩) (by assumption) ?rest6
  case hy6=>(intro w9 hSw;(try dsimp only at hSw);go_simp <;> (try with_reducible rfl))
  refine wpAnyH_take (i:=7) (v:=?_) rfl (by kernel_rfl) (by kernel_rfl) (by kernel_rfl) (fun _ _ _ h=>h) (Or.inl ⟨by rfl, ?hy7⟩) (by assumption) ?rest7
  case hy7=>(intro w9 hSw;(try dsimp only at hSw);go_simp <;> (try with_reducible rfl))
  refine wpAnyH_take (i:=8) (v:=?_) rfl (by kernel_rfl) (by kernel_rfl) (by kernel_rfl) (fun _ _ _ h=>h) (Or.inl ⟨by rfl, ?hy8⟩) (by assumption) ?rest8
  case hy8=>(intro w9 hSw;(try dsimp only at hSw);go_simp <;> (try with_reducible rfl))
  refine wpAnyH_take (i:=9) (v:=?_) rfl (by kernel_rfl) (by kernel_rfl) (by kernel_rfl) (fun _ _ _ h=>h) (Or.inl ⟨by rfl, ?hy9⟩) (by assumption) ?rest9
  case hy9=>(intro w9 hSw;(try dsimp only at hSw);go_simp <;> (try with_reducible rfl))
  refine wpAnyH_take (i:=11) (v:=?_) rfl (by kernel_rfl) (by kernel_rfl) (by kernel_rfl) (fun _ _ _ h=>h) (Or.inl ⟨by rfl, ?hy11⟩) (by assumption) ?rest11
  case hy11=>(intro w9 hSw;(try dsimp only at hSw);go_simp <;> (try with_reducible rfl))
  refine wpAnyH_take (i:=12) (v:=?_) rfl (by kernel_rfl) (by kernel_rfl) (by kernel_rfl) (fun _ _ _ h=>h) (Or.inl ⟨by rfl, ?hy12⟩) (by assumption) ?rest12
  case hy12=>(intro w9 hSw;(try dsimp only at hSw);go_simp <;> (try with_reducible rfl))
  refine wpAnyH_take (i:=13) (v:=?_) rfl (by kernel_rfl) (by kernel_rfl) (by kernel_rfl) (fun _ _ _ h=>h) (Or.inl ⟨by rfl, ?hy13⟩) (by assumption) ?rest13
  case hy13=>(intro w9 hSw;(try dsimp only at hSw);go_simp <;> (try with_reducible rfl))
  refine wpAnyH_ready (rs:=[10]) (by kernel_rfl) (by simp) ?_
  refine AllReadyH.cons rfl (fun K hK=>?_) AllReadyH.nil
  go_simp
  (go_at_call 68;refine (HP1.out _ ?q8).mono ?_;(case q8=>((repeat (first | with_reducible exact kk2 | with_reducible exact kk1 | with_reducible exact Kp.refl _ | with_reducible refine Kp.drew ?_));done));rintro e v1 ⟨pp,cc,rfl,ar1,ll1,k01⟩;have kk1:Kp w0 v1:=Kp.trans ?q10 k01;(case q10=>((repeat (first | with_reducible exact kk2 | with_reducible exact kk1 | with_reducible exact Kp.refl _ | with_reducible refine Kp.drew ?_));done));have kA:Kp wA v1:=kS.trans kk1)
  refine hK.out _ _ ?hS10 (fun hHeld=>?rest10)
  case hS10=>(refine ⟨kkeep (W:=wA) ?_ x0,kkeep (W:=wA) ?_ x1,kkeep (W:=wA) ?_ x2⟩ <;> ((repeat (first | with_reducible exact kC | with_reducible exact kB | with_reducible exact kA | with_reducible exact kS | with_reducible exact kD | with_reducible exact Kp.refl _ | with_reducible refine Kp.drew ?_ | refine Kp.setCell ?_ hge _));done))
  clear hK K
  refine wpAnyH_ready (rs:=[14]) (by kernel_rfl) (by simp) ?_
  refine AllReadyH.cons rfl (fun K hK=>?_) AllReadyH.nil
  go_simp
  (go_at_call 68;have hh:=ar1;refine (HP2.out _ ?q5).mono ?_;(case q5=>((repeat (first | with_reducible exact kk2 | with_reducible exact kk1 | with_reducible exact Kp.refl _ | with_reducible refine Kp.drew ?_));done));rintro e v2 ⟨pq,cq,rfl,ar2,ll2,k12⟩;have kk2:Kp w0 v2:=Kp.trans ?q7 k12;(case q7=>((repeat (first | with_reducible exact kk2 | with_reducible exact kk1 | with_reducible exact Kp.refl _ | with_reducible refine Kp.drew ?_));done));have kB:Kp wA v2:=kS.trans kk2)
  refine hK.out _ _ ?hS14 (fun hHeld=>?rest14)
  case hS14=>(refine ⟨kkeep (W:=wA) ?_ x0,kkeep (W:=wA) ?_ x1,kkeep (W:=wA) ?_ x2⟩ <;> ((repeat (first | with_reducible exact kC | with_reducible exact kB | with_reducible exact kA | with_reducible exact kS | with_reducible exact kD | with_reducible exact Kp.refl _ | with_reducible refine Kp.drew ?_ | refine Kp.setCell ?_ hge _));done))
  clear hK K
  refine wpAnyH_ready (rs:=[15]) (by kernel_rfl) (by simp) ?_
  refine AllReadyH.cons rfl (fun K hK=>?_) AllReadyH.nil
  go_simp
  (go_at_call 66;have hh:=ar2;refine (HFR.out pp cc pq cq _ ?q1 ?q2 ll1 ?q3 ll2).mono ?_;(case q1=>((repeat (first | with_reducible exact kk2 | with_reducible exact kk1 | with_reducible exact Kp.refl _ | with_reducible refine Kp.drew ?_));done));(case q2=>exact ar1.grown k12);(case q3=>exact ar2);rintro e v3 ⟨vn,vd,a',b',ng,rfl,o1,o2,ff,k23⟩;have kk3:Kp w0 v3:=Kp.trans ?q4 k23;(case q4=>((repeat (first | with_reducible exact kk2 | with_reducible exact kk1 | with_reducible exact Kp.refl _ | with_reducible refine Kp.drew ?_));done));have kC:Kp wA v3:=kS.trans kk3;obtain ⟨pn,cn,rfl,an,ln⟩:=o1.arr;obtain ⟨pd,cd,rfl,ad,ld⟩:=o2.arr;have R0:=kkeep kk3 r0;have R1:=kkeep kk3 r1;have R2:=kkeep kk3 r2;have F0:=(kfro kk3 hlt).trans f0;have F1:=(kfro kk3 hlt).trans f1;have F2:=(kfro kk3 hlt).trans f2)
  refine hK.out _ _ ?hS15 (fun hHeld=>?rest15)
  case hS15=>(refine ⟨kkeep (W:=wA) ?_ x0,kkeep (W:=wA) ?_ x1,kkeep (W:=wA) ?_ x2⟩ <;> ((repeat (first | with_reducible exact kC | with_reducible exact kB | with_reducible exact kA | with_reducible exact kS | with_reducible exact kD | with_reducible exact Kp.refl _ | with_reducible refine Kp.drew ?_ | refine Kp.setCell ?_ hge _));done))
  clear hK K
  refine wpAnyH_ready (rs:=[16]) (by kernel_rfl) (by simp) ?_
  refine AllReadyH.cons rfl (fun K hK=>?_) AllReadyH.nil
  go_simp
  skip
  refine hK.out _ _ ?hS16 (fun hHeld=>?rest16)
  case hS16=>(have q0:=hge;have kZ:Kp wA (((v3.setCell ⟨B+1,0,none⟩ (.bool ng)).setCell ⟨B+1,1,none⟩ (.slice pn (dig a').length cn)).setCell ⟨B+1,2,none⟩ (.slice pd (dig b').length cd)):=Kp.setCell (p:=⟨B+1,2,none⟩) (Kp.setCell (p:=⟨B+1,1,none⟩) (Kp.setCell (p:=⟨B+1,0,none⟩) kC q0 _) q0 _) q0 _;exact ⟨kkeep kZ x0,kkeep kZ x1,kkeep kZ x2⟩)
  clear hK K
  refine wpAnyH_done (by kernel_rfl) ?_ _
  have hs1:=Below.size kk2
  obtain ⟨wz,hwz⟩:∃ wz,wz=((v3.setCell ⟨B+1,0,none⟩ (.bool ng)).setCell ⟨B+1,1,none⟩ (.slice pn (dig a').length cn)).setCell ⟨B+1,2,none⟩ (.slice pd (dig b').length cd):=⟨_,rfl⟩
  have kb:Kb (B+1) v3 wz:=by rw [hwz];exact (((Kb.refl (B+1) v3).setCell 0 _).setCell 1 _).setCell 2 _
  have O1:=o1.kb kb (fun g hg=>by have:=o1.lt g hg;omega)
  have O2:=o2.kb kb (fun g hg=>by have:=o2.lt g hg;omega)
  have hkw:Kp w wz:=kb.kp (HW.out.2.2.2.trans kk3) (by rw [HW.out.2.2.1];omega)
  have HO:Hid (Own wz w.heap.size (.slice pn (dig a').length cn) (dig a')∧Own wz w.heap.size (.slice pd (dig b').length cd) (dig b')∧(FracT X D 0 a' b'∧(X≠0→ng=false))∧Kp w wz∧wz=((v3.setCell ⟨B+1,0,none⟩ (.bool ng)).setCell ⟨B+1,1,none⟩ (.slice pn (dig a').length cn)).setCell ⟨B+1,2,none⟩ (.slice pd (dig b').length cd)):=⟨O1.mono (by have e9:=HW.out.2.2.1;omega),O2.mono (by have e9:=HW.out.2.2.1;omega),ff,hkw,hwz⟩
  clear hs1 hwz kb O1 O2 hkw o1 o2 ff k23 kk3 kC an ln ad ld kk2 k12 kB ar2 ll2 kk1 k01 kA ar1 ll1 HP1 HP2 HFR kS kD hge
  go_wp2
  obtain ⟨q1,q2,q3,q4,q5⟩:=HO.out
  rw [q5] at q1 q2 q4
  exact BR (v:=.agg #[.bool ng,.slice pn (dig a').length cn,.slice pd (dig b').length cd]) (by simp [results,Tryz.results29,go_sem,R0,R1,R2]) rfl ⟨_,_,a',b',ng,rfl,q1,q2,q3,q4⟩
 ·have hst':ob=st:=by rw [hst];rfl
  subst hst'
  clear hst
  go_enter Tryz.func29,Tryz.ntmps29
  go_upto_region 1 with fail
  rw [← HW.out.2.2.1]
  try rw [← HW.out.2.1]
  try rw [← HW.out.1]
  go_region_held3 (fun w'=>w'.cell? ⟨B,0,none⟩=some (.bool true)∧w'.cell? ⟨B,1,none⟩=some (.slice P1 E1 C1)∧w'.cell? ⟨B,2,none⟩=some (.slice P2 E2 C2)) (refine ⟨kkeep (W:=wA) ?_ x0,kkeep (W:=wA) ?_ x1,kkeep (W:=wA) ?_ x2⟩ <;> ((repeat (first | with_reducible exact kC | with_reducible exact kB | with_reducible exact kA | with_reducible exact kS | with_reducible exact kD | with_reducible exact Kp.refl _ | with_reducible refine Kp.drew ?_ | refine Kp.setCell ?_ hge _));done)) (first | (go_at_call 66;have hh:=ar2;refine (HFR.out pp cc pq cq _ ?q1 ?q2 ll1 ?q3 ll2).mono ?_;(case q1=>((repeat (first | with_reducible exact kk2 | with_reducible exact kk1 | with_reducible exact Kp.refl _ | with_reducible refine Kp.drew ?_));done));(case q2=>exact ar1.grown k12);(case q3=>exact ar2);rintro e v3 ⟨vn,vd,a',b',ng,rfl,o1,o2,ff,k23⟩;have kk3:Kp w0 v3:=Kp.trans ?q4 k23;(case q4=>((repeat (first | with_reducible exact kk2 | with_reducible exact kk1 | with_reducible exact Kp.refl _ | with_reducible refine Kp.drew ?_));done));have kC:Kp wA v3:=kS.trans kk3;obtain ⟨pn,cn,rfl,an,ln⟩:=o1.arr;obtain ⟨pd,cd,rfl,ad,ld⟩:=o2.arr;have R0:=kkeep kk3 r0;have R1:=kkeep kk3 r1;have R2:=kkeep kk3 r2;have F0:=(kfro kk3 hlt).trans f0;have F1:=(kfro kk3 hlt).trans f1;have F2:=(kfro kk3 hlt).trans f2) | (go_at_call 68;have hh:=ar1;refine (HP2.out _ ?q5).mono ?_;(case q5=>((repeat (first | with_reducible exact kk2 | with_reducible exact kk1 | with_reducible exact Kp.refl _ | with_reducible refine Kp.drew ?_));done));rintro e v2 ⟨pq,cq,rfl,ar2,ll2,k12⟩;have kk2:Kp w0 v2:=Kp.trans ?q7 k12;(case q7=>((repeat (first | with_reducible exact kk2 | with_reducible exact kk1 | with_reducible exact Kp.refl _ | with_reducible refine Kp.drew ?_));done));have kB:Kp wA v2:=kS.trans kk2) | (go_at_call 68;refine (HP1.out _ ?q8).mono ?_;(case q8=>((repeat (first | with_reducible exact kk2 | with_reducible exact kk1 | with_reducible exact Kp.refl _ | with_reducible refine Kp.drew ?_));done));rintro e v1 ⟨pp,cc,rfl,ar1,ll1,k01⟩;have kk1:Kp w0 v1:=Kp.trans ?q10 k01;(case q10=>((repeat (first | with_reducible exact kk2 | with_reducible exact kk1 | with_reducible exact Kp.refl _ | with_reducible refine Kp.drew ?_));done));have kA:Kp wA v1:=kS.trans kk1))
  have hs1:=Below.size kk2
  obtain ⟨wz,hwz⟩:∃ wz,wz=((v3.setCell ⟨B+1,0,none⟩ (.bool ng)).setCell ⟨B+1,1,none⟩ (.slice pn (dig a').length cn)).setCell ⟨B+1,2,none⟩ (.slice pd (dig b').length cd):=⟨_,rfl⟩
  have kb:Kb (B+1) v3 wz:=by rw [hwz];exact (((Kb.refl (B+1) v3).setCell 0 _).setCell 1 _).setCell 2 _
  have O1:=o1.kb kb (fun g hg=>by have:=o1.lt g hg;omega)
  have O2:=o2.kb kb (fun g hg=>by have:=o2.lt g hg;omega)
  have hkw:Kp w wz:=kb.kp (HW.out.2.2.2.trans kk3) (by rw [HW.out.2.2.1];omega)
  have HO:Hid (Own wz w.heap.size (.slice pn (dig a').length cn) (dig a')∧Own wz w.heap.size (.slice pd (dig b').length cd) (dig b')∧(FracT X D 0 a' b'∧(X≠0→ng=ob))∧Kp w wz∧wz=((v3.setCell ⟨B+1,0,none⟩ (.bool ng)).setCell ⟨B+1,1,none⟩ (.slice pn (dig a').length cn)).setCell ⟨B+1,2,none⟩ (.slice pd (dig b').length cd)):=⟨O1.mono (by have e9:=HW.out.2.2.1;omega),O2.mono (by have e9:=HW.out.2.2.1;omega),ff,hkw,hwz⟩
  clear hs1 hwz kb O1 O2 hkw o1 o2 ff k23 kk3 kC an ln ad ld kk2 k12 kB ar2 ll2 kk1 k01 kA ar1 ll1 HP1 HP2 HFR kS kD hge
  go_wp2
  obtain ⟨q1,q2,q3,q4,q5⟩:=HO.out
  rw [q5] at q1 q2 q4
  exact BR (v:=.agg #[.bool ng,.slice pn (dig a').length cn,.slice pd (dig b').length cd]) (by simp [results,Tryz.results29,go_sem,R0,R1,R2]) rfl ⟨_,_,a',b',ng,rfl,q1,q2,q3,q4⟩
set_option linter.unusedVariables false
def TB (w:World) (b t:Nat):Prop:=∃ C:Array Value,w.heap[b]? = some (.cells C t (0,0))
def H9t (w:World) (b:Nat) (v0 v1 v2 v3 v4 v5 v6 v7 v8:Value):Prop:=w.cell? ⟨b,0,none⟩=some v0∧w.cell? ⟨b,1,none⟩=some v1∧w.cell? ⟨b,2,none⟩=some v2∧w.cell? ⟨b,3,none⟩=some v3∧w.cell? ⟨b,4,none⟩=some v4∧w.cell? ⟨b,5,none⟩=some v5∧w.cell? ⟨b,6,none⟩=some v6∧w.cell? ⟨b,7,none⟩=some v7∧w.cell? ⟨b,8,none⟩=some v8∧w.frozen? ⟨b,0,none⟩=false∧w.frozen? ⟨b,1,none⟩=false∧w.frozen? ⟨b,2,none⟩=false∧w.frozen? ⟨b,3,none⟩=false∧w.frozen? ⟨b,4,none⟩=false∧w.frozen? ⟨b,5,none⟩=false∧w.frozen? ⟨b,6,none⟩=false∧w.frozen? ⟨b,7,none⟩=false∧w.frozen? ⟨b,8,none⟩=false∧TB w b 74
theorem rvI_pow (s:Bool) (a k:Nat):rvI (s && decide (k % 2=1)) (a ^ k)=(rvI s a) ^ k:=by
 have e:∀ (x:Int) (k:Nat),(-x) ^ k=if k % 2=1 then -(x ^ k) else x ^ k:=by
  intro x k
  induction k with
  | zero=>simp
  | succ j ih =>
    rw [Int.pow_succ,Int.pow_succ,ih]
    by_cases c:j % 2=1
    ·rw [if_pos c,if_neg (by omega)];simp [Int.mul_neg,Int.neg_mul]
    ·rw [if_neg c,if_pos (by omega)];simp [Int.mul_neg]
 unfold rvI
 cases s
 ·simp [Int.natCast_pow]
 ·rw [if_pos rfl,e]
  by_cases c:k % 2=1
  ·rw [if_pos c,if_pos (by simp [c]),Int.natCast_pow]
  ·rw [if_neg c,if_neg (by simp [c]),Int.natCast_pow]
theorem blen_pow (a k N:Nat) (h:blen a≤N):blen (a ^ k)≤N*k+1:=by
 rw [blen_le_iff]
 have h1:a ^ k≤(2 ^ N) ^ k:=Nat.pow_le_pow_left (Nat.le_of_lt ((blen_le_iff a N).1 h)) k
 rw [← Nat.pow_mul] at h1
 have h2:2 ^ (N*k)<2 ^ (N*k+1):=Nat.pow_lt_pow_right (by decide) (by omega)
 omega
theorem XF.pow (s ng:Bool) (a1 a2 a' b':Nat) (V:Int) (C k M:Nat) (h:XF s a1 a2 V C M) (hb:b'≠0) (e:rvI ng a'*((a2 ^ k:Nat):Int)=rvI (s && decide (k % 2=1)) (a1 ^ k)*(b':Int)) (N:Nat) (n1:blen a'≤N) (n2:blen b'≤N):XF ng a' b' (V ^ k) (C ^ k) N:=by
 obtain ⟨f1,f2,f3,f4,f5⟩:=h
 refine ⟨hb,Nat.ne_of_gt (Nat.pow_pos (by omega)), ?_,n1,n2⟩
 rw [rvI_pow] at e
 have e2:rvI s a1 ^ k*((C ^ k:Nat):Int)=V ^ k*((a2 ^ k:Nat):Int):=by
  rw [Int.natCast_pow,Int.natCast_pow,← Int.mul_pow,← Int.mul_pow,f3]
 have hd:((a2 ^ k:Nat):Int)≠0:=by
  have:0<a2 ^ k:=Nat.pow_pos (by omega)
  omega
 refine Int.eq_of_mul_eq_mul_right hd ?_
 calc rvI ng a'*((C ^ k:Nat):Int)*((a2 ^ k:Nat):Int)
   = rvI ng a'*((a2 ^ k:Nat):Int)*((C ^ k:Nat):Int):=Int.mul_right_comm _ _ _
  _=rvI s a1 ^ k*(b':Int)*((C ^ k:Nat):Int):=by rw [e]
  _=rvI s a1 ^ k*((C ^ k:Nat):Int)*(b':Int):=Int.mul_right_comm _ _ _
  _=V ^ k*((a2 ^ k:Nat):Int)*(b':Int):=by rw [e2]
  _=V ^ k*(b':Int)*((a2 ^ k:Nat):Int):=Int.mul_right_comm _ _ _
theorem xpow_ (V:Int) (C e9:Nat) (hk:e9≤1024) s p l c q k d (B1:Nat) (w:World) (h:XP B1 w s p l c q k d V C 1500):Calls Tryz.prog 29 #[.agg #[.bool s,.slice p l c,.slice q k d],.int .i64 (e9:Int)] w fun e w'=>∃ s3 p3 l3 c3 q3 k3 d3,e=.returned (.agg #[.bool s3,.slice p3 l3 c3,.slice q3 k3 d3])∧XP w.heap.size w' s3 p3 l3 c3 q3 k3 d3 (V ^ e9) (C ^ e9) 1540000∧Kp w w':=by
 obtain ⟨a1,a2,u1,u2,u3⟩:=h
 obtain ⟨P1,C1,e1,x1,y1⟩:=u1.arr
 obtain ⟨P2,C2,e2,x2,y2⟩:=u2.arr
 rw [e1,e2]
 refine (rpowX9_ s a1 a2 e9 P1 P2 C1 C2 w x1 y1 x2 y2 u3.2.2.2.1 u3.2.2.2.2 u3.1 hk (a1 ^ e9) (a2 ^ e9) rfl rfl _ rfl).mono ?_
 rintro e w' ⟨vn,vd,a',b',ng,rfl,o1,o2,⟨hF,hn⟩,g⟩
 obtain ⟨p3,c3,rfl,-,-⟩:=o1.arr
 obtain ⟨q3,d3,rfl,-,-⟩:=o2.arr
 have hz:a2 ^ e9≠0:=Nat.ne_of_gt (Nat.pow_pos (by have:=u3.1;omega))
 have q1:=blen_pow a1 e9 1500 u3.2.2.2.1
 have q2:=blen_pow a2 e9 1500 u3.2.2.2.2
 have q3':=hF.2 rfl
 have hx:=frac_x (a1 ^ e9) (a2 ^ e9) a' b' ng _ hz hF.1 hn
 exact ⟨ng,p3,_,c3,q3,_,d3,rfl,⟨a',b',o1,o2,XF.pow s ng a1 a2 a' b' V C e9 1500 u3 hF.1.1 hx 1540000 (by omega) (by omega)⟩,g⟩
namespace Fq
theorem eqInP (a c:Nat) (w:World):(Op.equalIn 9999 22 (.float .f64 a) (.float .f64 c)).run Tryz.prog w=.ok (FloatKind.f64.format.order a c == some Ordering.eq) w:=by kernel_rfl
theorem voidP_ (a b:Nat) (ha:a<18446744073709551616) (hb:b<18446744073709551616) (w:World):Calls Tryz.prog 47 #[.agg #[.float .f64 a,.float .f64 b]] w fun e w'=>e=.returned (.bool (decide (a=9218868437227405312∧b=18442240474082181120)))∧Grown w w':=by
 have t2:=feqI a ha
 have t3:=feqM b hb
 have e1:(decide (a=9218868437227405312∧b=18442240474082181120))=((FloatKind.f64.format.order a 9218868437227405312 == some Ordering.eq) && (FloatKind.f64.format.order b 18442240474082181120 == some Ordering.eq)):=by
  rw [t2,t3];by_cases c1:a=9218868437227405312 <;> by_cases c2:b=18442240474082181120 <;> simp [c1,c2]
 rw [e1]
 clear e1 t2 t3 ha hb
 have h0:=eqInP a 9218868437227405312
 have h1:=eqInP b 18442240474082181120
 generalize g1:(FloatKind.f64.format.order a 9218868437227405312 == some Ordering.eq)=B1 at h0 ⊢
 generalize g2:(FloatKind.f64.format.order b 18442240474082181120 == some Ordering.eq)=B2 at h1 ⊢
 cases B1 <;> cases B2
 ·go_enter Tryz.func47,Tryz.ntmps47
  go_wp2
  go_region_held3 (fun w'=>w'.cell? ⟨w.heap.size,0,none⟩=some (.float .f64 a)∧w'.cell? ⟨w.heap.size,1,none⟩=some (.float .f64 b)) (simp [go_sem,World.cell?_alloc_past]) (first | (go_at_call 56;refine (empty6_ _).mono ?_;rintro e w' ⟨rfl,rfl⟩))
  go_wp2
  exact BR (v:=.bool false) (by simp [results,Tryz.results47,go_sem] <;> simp only [*]) rfl ⟨rfl,(by repeat (with_reducible (first | assumption | exact Grown.refl _ | apply Grown.drew | apply Grown.alloc | apply gdrewN | (refine Grown.setCell ?_ (by simp <;> omega) _) | (refine gtrans ?_ (by assumption)))))⟩
 ·go_enter Tryz.func47,Tryz.ntmps47
  go_wp2
  go_region_held3 (fun w'=>w'.cell? ⟨w.heap.size,0,none⟩=some (.float .f64 a)∧w'.cell? ⟨w.heap.size,1,none⟩=some (.float .f64 b)) (simp [go_sem,World.cell?_alloc_past]) (first | (go_at_call 56;refine (empty6_ _).mono ?_;rintro e w' ⟨rfl,rfl⟩))
  go_wp2
  exact BR (v:=.bool false) (by simp [results,Tryz.results47,go_sem] <;> simp only [*]) rfl ⟨rfl,(by repeat (with_reducible (first | assumption | exact Grown.refl _ | apply Grown.drew | apply Grown.alloc | apply gdrewN | (refine Grown.setCell ?_ (by simp <;> omega) _) | (refine gtrans ?_ (by assumption)))))⟩
 ·go_enter Tryz.func47,Tryz.ntmps47
  go_wp2
  go_region_held3 (fun w'=>w'.cell? ⟨w.heap.size,0,none⟩=some (.float .f64 a)∧w'.cell? ⟨w.heap.size,1,none⟩=some (.float .f64 b)) (simp [go_sem,World.cell?_alloc_past]) (first | (go_at_call 56;refine (empty6_ _).mono ?_;rintro e w' ⟨rfl,rfl⟩))
  go_wp2
  exact BR (v:=.bool false) (by simp [results,Tryz.results47,go_sem] <;> simp only [*]) rfl ⟨rfl,(by repeat (with_reducible (first | assumption | exact Grown.refl _ | apply Grown.drew | apply Grown.alloc | apply gdrewN | (refine Grown.setCell ?_ (by simp <;> omega) _) | (refine gtrans ?_ (by assumption)))))⟩
 ·go_enter Tryz.func47,Tryz.ntmps47
  go_wp2
  go_region_held3 (fun w'=>w'.cell? ⟨w.heap.size,0,none⟩=some (.float .f64 a)∧w'.cell? ⟨w.heap.size,1,none⟩=some (.float .f64 b)) (simp [go_sem,World.cell?_alloc_past]) (first | (go_at_call 56;refine (empty6_ _).mono ?_;rintro e w' ⟨rfl,rfl⟩))
  go_wp2
  exact BR (v:=.bool true) (by simp [results,Tryz.results47,go_sem] <;> simp only [*]) rfl ⟨rfl,(by repeat (with_reducible (first | assumption | exact Grown.refl _ | apply Grown.drew | apply Grown.alloc | apply gdrewN | (refine Grown.setCell ?_ (by simp <;> omega) _) | (refine gtrans ?_ (by assumption)))))⟩
end Fq
theorem half_up (X h:Nat) (hh:0<h):(X+h) / (2*h)=X / (2*h)+(decide (2*h≤2*(X % (2*h)))).toNat:=by
 have e:=Nat.div_add_mod X (2*h)
 have r:=Nat.mod_lt X (show 0<2*h by omega)
 generalize X / (2*h)=q at *
 generalize X % (2*h)=t at *
 by_cases c:2*h≤2*t
 ·rw [decide_eq_true c,← e,show 2*h*q+t+h=(t - h)+2*h*(q+1) from by rw [Nat.mul_add];omega,Nat.add_mul_div_left _ _ (by omega),Nat.div_eq_of_lt (by omega)]
  simp
 ·rw [decide_eq_false c,← e,show 2*h*q+t+h=(t+h)+2*h*q from by omega,Nat.add_mul_div_left _ _ (by omega),Nat.div_eq_of_lt (by omega)]
  simp
theorem vV_parts (m:Nat):Fq.vV Ieee.double m=if m<4503599627370496 then m else (4503599627370496+m % 4503599627370496)*2 ^ (m / 4503599627370496 - 1):=by
 unfold Fq.vV Fq.mM Fq.eE
 rw [Fq.binD]
 by_cases c:m<4503599627370496
 ·rw [if_pos c,if_pos c,if_pos c,Nat.pow_zero,Nat.mul_one]
 ·rw [if_neg c,if_neg c,if_neg c]
def awR (m:Nat):Nat:=if m / 4503599627370496<1023 then (if m / 4503599627370496=1022 then 4607182418800017408 else 0) else if m / 4503599627370496<1075 then (m+2 ^ (1074 - m / 4503599627370496)) / 2 ^ (1075 - m / 4503599627370496)*2 ^ (1075 - m / 4503599627370496) else m
theorem away_rung (K:Nat) (hK:K=1074) (n:Bool) (m:Nat) (hm:m≤9218868437227405312):cR K 5 n m=awR m:=by
 have hb5:∀ (s:Bool) (q r U:Nat),bmp 5 s q r U=decide (U≤2*r):=fun s q r U=>by
  unfold bmp;rw [if_neg (by decide),if_neg (by decide),if_neg (by decide),if_neg (by decide)]
 unfold cR awR
 by_cases ci:m=9218868437227405312
 ·rw [if_pos ci,ci];rfl
 rw [if_neg ci]
 have hV:=vV_parts m
 obtain ⟨e,he⟩:∃ e,e=m / 4503599627370496:=⟨_,rfl⟩
 obtain ⟨f,hf⟩:∃ f,f=m % 4503599627370496:=⟨_,rfl⟩
 have hfl:f<4503599627370496:=by rw [hf];exact Nat.mod_lt _ (by decide)
 have hme:m=e*4503599627370496+f:=by omega
 rw [← he,← hf] at hV
 rw [← he]
 by_cases cA:e<1023
 ·rw [if_pos cA]
  have hup:Fq.vV Ieee.double m<9007199254740992*2 ^ (e - 1):=by
   rw [hV]
   by_cases c:m<4503599627370496
   ·rw [if_pos c]
    have:=Nat.two_pow_pos (e - 1)
    have:=Nat.mul_le_mul_left 9007199254740992 (show 1≤2 ^ (e - 1) from this)
    omega
   ·rw [if_neg c]
    exact Nat.mul_lt_mul_of_pos_right (by omega) (Nat.two_pow_pos _)
  by_cases cB:e=1022
  ·rw [if_pos cB]
   have hlo:2 ^ K≤2*Fq.vV Ieee.double m:=by
    rw [hV,if_neg (by omega)]
    have h1:4503599627370496*2 ^ (e - 1)≤(4503599627370496+f)*2 ^ (e - 1):=Nat.mul_le_mul_right _ (by omega)
    have h2:2 ^ K=2*(4503599627370496*2 ^ (e - 1)):=by
     rw [show (4503599627370496:Nat)=2 ^ 52 from by decide,← Nat.pow_add,show 2*2 ^ (52+(e - 1))=2 ^ (52+(e - 1)+1) from by rw [Nat.pow_succ,Nat.mul_comm]]
     congr 1;omega
    omega
   have hhi:Fq.vV Ieee.double m<2 ^ K:=by
    refine Nat.lt_of_lt_of_le hup ?_
    rw [show (9007199254740992:Nat)=2 ^ 53 from by decide,← Nat.pow_add]
    exact Nat.pow_le_pow_right (by decide) (by omega)
   have hq:cutN 5 n (Fq.vV Ieee.double m) (2 ^ K)=1:=by
    unfold cutN
    rw [Nat.div_eq_of_lt hhi,Nat.mod_eq_of_lt hhi,hb5,decide_eq_true hlo];rfl
   rw [hq,Nat.one_mul,← vV_one K hK]
   exact rg_vV _ (by decide)
  ·rw [if_neg cB]
   have hhi:2*Fq.vV Ieee.double m<2 ^ K:=by
    have h1:2*(9007199254740992*2 ^ (e - 1))≤2 ^ K:=by
     rw [show (9007199254740992:Nat)=2 ^ 53 from by decide,← Nat.pow_add,show 2*2 ^ (53+(e - 1))=2 ^ (53+(e - 1)+1) from by rw [Nat.pow_succ,Nat.mul_comm]]
     exact Nat.pow_le_pow_right (by decide) (by omega)
    omega
   have hq:cutN 5 n (Fq.vV Ieee.double m) (2 ^ K)=0:=by
    unfold cutN
    rw [Nat.div_eq_of_lt (show Fq.vV Ieee.double m<2 ^ K by omega),Nat.mod_eq_of_lt (show Fq.vV Ieee.double m<2 ^ K by omega),hb5,decide_eq_false (by omega)];rfl
   rw [hq,Nat.zero_mul];exact rgU0
 ·rw [if_neg cA]
  rw [if_neg (show ¬ m<4503599627370496 by omega)] at hV
  by_cases cB:e<1075
  ·rw [if_pos cB]
   obtain ⟨s,hs⟩:∃ s,s=1075 - e:=⟨_,rfl⟩
   rw [← hs,show 1074 - e=s - 1 from by omega]
   obtain ⟨h,hh⟩:∃ h,h=2 ^ (s - 1):=⟨_,rfl⟩
   have hhp:0<h:=by rw [hh];exact Nat.two_pow_pos _
   have h2h:2 ^ s=2*h:=by rw [hh,show s=s - 1+1 from by omega,Nat.pow_succ,Nat.add_sub_cancel,Nat.mul_comm]
   obtain ⟨c,hc⟩:∃ c,c=2 ^ (52 - s):=⟨_,rfl⟩
   have hdc:4503599627370496=2*h*c:=by
    rw [← h2h,hc,← Nat.pow_add,show s+(52 - s)=52 from by omega]
   obtain ⟨P,hP⟩:∃ P,P=2 ^ (e - 1):=⟨_,rfl⟩
   have hPp:0<P:=by rw [hP];exact Nat.two_pow_pos _
   have hU:2 ^ K=2*h*P:=by
    rw [← h2h,hP,← Nat.pow_add];congr 1;omega
   obtain ⟨X,hX⟩:∃ X,X=4503599627370496+f:=⟨_,rfl⟩
   obtain ⟨q,hq⟩:∃ q,q=(X+h) / (2*h):=⟨_,rfl⟩
   have hcut:cutN 5 n (Fq.vV Ieee.double m) (2 ^ K)=q:=by
    rw [hV,← hX,← hP,hU,cutN_scale _ _ _ _ _ hPp,hq,half_up X h hhp]
    unfold cutN
    rw [hb5]
   have hqT:q*(2*h)≤X+h∧X<q*(2*h)+h:=by
    have d:=Nat.div_add_mod (X+h) (2*h)
    have r:=Nat.mod_lt (X+h) (show 0<2*h by omega)
    rw [← hq,Nat.mul_comm] at d
    omega
   have hG1:4503599627370496≤q*(2*h):=by
    have g:c≤q:=by
     rw [hq,Nat.le_div_iff_mul_le (show 0<2*h by omega),Nat.mul_comm,← hdc];omega
    have:=Nat.mul_le_mul_right (2*h) g
    rw [Nat.mul_comm c,← hdc] at this
    exact this
   have hG2:q*(2*h)≤9007199254740992:=by
    have g:q<2*c+1:=by
     rw [hq,Nat.div_lt_iff_lt_mul (show 0<2*h by omega),Nat.add_mul,Nat.mul_assoc,Nat.mul_comm c,← hdc];omega
    have:=Nat.mul_le_mul_right (2*h) (show q≤2*c by omega)
    rw [Nat.mul_assoc,Nat.mul_comm c,← hdc] at this
    omega
   have hm':(m+h) / (2*h)*(2*h)=(e - 1)*4503599627370496+q*(2*h):=by
    have a:m+h=(X+h)+2*h*(c*(e - 1)):=by
     rw [← Nat.mul_assoc,← hdc,hX];omega
    rw [a,Nat.add_mul_div_left _ _ (show 0<2*h by omega),← hq,Nat.add_mul]
    have b:c*(e - 1)*(2*h)=(e - 1)*4503599627370496:=by rw [hdc];ac_rfl
    rw [b];omega
   have hv':=vV_place (e - 1) (q*(2*h)) (by rw [show (2:Nat) ^ 53=9007199254740992 from by decide];exact hG2) (Or.inr (by rw [show (2:Nat) ^ (53 - 1)=4503599627370496 from by decide];exact hG1))
   rw [show (2:Nat) ^ (53 - 1)=4503599627370496 from by decide] at hv'
   have eq:q*2 ^ K=q*(2*h)*2 ^ (e - 1):=by rw [hU,hP,← Nat.mul_assoc q]
   have bd:(e - 1)*4503599627370496+q*(2*h)<9218868437227405312:=by
    generalize q*(2*h)=G at *
    clear hV hv' hm' hcut eq hqT hU hdc h2h hq hX hP hc hh hhp hPp
    omega
   have fin:=rg_vV _ bd
   rw [hv'] at fin
   rw [hcut,← hh,h2h,hm',eq]
   exact fin
  ·rw [if_neg cB]
   have a:Fq.vV Ieee.double m=(4503599627370496+f)*2 ^ (e - 1 - K)*2 ^ K:=by
    rw [hV,Nat.mul_assoc,← Nat.pow_add];congr 2;omega
   have b:=cutN_mul 5 n ((4503599627370496+f)*2 ^ (e - 1 - K)) (2 ^ K) (Nat.two_pow_pos K)
   rw [← a] at b
   rw [b,← a]
   exact rg_vV m (by omega)
end Go.Proofs.YtcfnialfpblfmaaGreatDoor
