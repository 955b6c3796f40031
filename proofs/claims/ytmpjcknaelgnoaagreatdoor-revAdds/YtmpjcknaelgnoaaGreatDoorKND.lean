import Derived.Test.YtmpjcknaelgnoaaGreatDoorKH4Q
import Derived.Test.YtmpjcknaelgnoaaGreatDoorKNRm
set_option maxHeartbeats 1000000
set_option maxRecDepth 20000
namespace Go.Proofs.YtmpjcknaelgnoaaGreatDoor
open Go.RowKit
theorem diff_ (p q:Option Addr) (c d:Nat) (xs ys:List Int) (w:World) (hx:Arr w p xs) (hy:Arr w q ys) (hwx:Wd xs) (hwy:Wd ys) (lx:xs.length<1099511627775) (hl:ys.length≤xs.length) (hle:val ys≤val xs) :
  Calls Tryz.prog 248 #[.slice p xs.length c,.slice q ys.length d] w fun e w'=>∃ v,e=.returned v∧Own w' w.heap.size v (dig (val xs - val ys))∧Kp w w':=by
 have hfr:=fresh_ p c xs w hx (by omega)
 obtain ⟨N,hN⟩:∃ N,N=xs.length:=⟨_,rfl⟩
 obtain ⟨M,hM⟩:∃ M,M=ys.length:=⟨_,rfl⟩
 have hNM:M≤N:=by omega
 rw [← hN] at hfr ⊢
 rw [← hM]
 have hb1:N<1099511627775:=by omega
 have HX:Hid (Arr w p xs):=hx
 have HY:Hid (Arr w q ys):=hy
 have HW:Hid (Wd xs∧Wd ys∧val ys≤val xs):=⟨hwx,hwy,hle⟩
 have HN:Hid (N=xs.length∧M=ys.length∧M≤N):=⟨hN,hM,hNM⟩
 clear hx hy hwx hwy lx hl hN hM hle
 go_enter Tryz.func248,Tryz.ntmps248
 go_wp2_with fail
 refine hfr.mono ?_;rintro e w2 ⟨g,rfl,hgw,hrz,hk2⟩
 clear hfr
 have HG:Hid (w.heap.size≤g):=hgw
 clear hgw
 go_wp2
 go_loopw [6,13] (fun cc i wr=>∃ (k C:Nat) (zs:List Int),cc=.int .u32 C∧i=.int .i64 k∧k≤M∧Rw wr g N zs∧zs.length=N∧Wd zs∧C≤1∧val zs+val (ys.take k)=val xs+C*4294967296 ^ k∧(∀ j,k≤j→j<N→zs.getD j 0=xs.getD j 0)∧Kp w wr) (fun _ i _=>M - (intOf i).toNat)
 case atStart=>exact ⟨0,0,xs,rfl,rfl,Nat.zero_le _,hrz,HN.out.1.symm,HW.out.1,by omega,by simp [val],fun j _ _=>rfl,hk2⟩
 case round =>
  clear hrz hk2
  obtain ⟨k,C,zs,rfl,rfl,hk,hrow,hzl,hwz,hC,hv,hsam,hkp⟩:=hrel
  obtain ⟨hN,hM,hNM⟩:=HN.out
  obtain ⟨hwx,hwy,hle⟩:=HW.out
  by_cases ck:k<M
  ·obtain ⟨b,off,rfl,hc⟩:=HX.out.at (k:=k) (by omega)
   obtain ⟨b',off',rfl,hc'⟩:=HY.out.at (k:=k) (by omega)
   have e1:=kkeep hkp (hc k (by omega))
   have e2:=kkeep hkp (hc' k (by omega))
   have hbg:b≠g:=by have:=cell_lt (hc k (by omega));have:=HG.out;omega
   have hbg':b'≠g:=by have:=cell_lt (hc' k (by omega));have:=HG.out;omega
   have e3:=World.rowIs.cell hrow (i:=k) (by omega)
   have e4:=World.rowIs.frozen hrow k
   have wx:=hwx k
   have wy:=hwy k
   have hzX:=hsam k (Nat.le_refl _) (by omega)
   have hst:=fun (C' Z:Nat) h=>diff_step zs k C C' Z _ _ (xs.getD k 0) (ys.getD k 0) (by omega) hzX h hv
   rw [← val_take_succ] at hst
   obtain ⟨X,hX⟩:∃ X:Nat,(X:Int)=xs.getD k 0:=⟨(xs.getD k 0).toNat,by omega⟩
   obtain ⟨Y,hY⟩:∃ Y:Nat,(Y:Int)=ys.getD k 0:=⟨(ys.getD k 0).toNat,by omega⟩
   rw [← hX] at e1 wx hst
   rw [← hY] at e2 wy hst
   simp only [Int.toNat_natCast] at hst
   have had:=sub32_ X Y C (by omega) (by omega) hC
   obtain ⟨Z,hZ⟩:∃ Z:Nat,Z=(X+8589934592 - Y - C) % 4294967296:=⟨_,rfl⟩
   obtain ⟨C',hC2⟩:∃ C':Nat,C'=if X<Y+C then 1 else 0:=⟨_,rfl⟩
   rw [← hZ,← hC2] at had
   have hC':C'≤1:=by rw [hC2];split <;> omega
   have hs2:=hst C' Z (by rw [hC2,hZ];split <;> omega)
   have hsam2:∀ j,k+1≤j→j<N→(zs.set k (Z:Int)).getD j 0=xs.getD j 0:=fun j h1 h2=>by
    rw [← hsam j (by omega) h2];simp [List.getD,show ¬ k=j from by omega]
   have hw2:Wd (zs.set k (Z:Int)):=hwz.set k Z (by omega)
   have hl2:(zs.set k (Z:Int)).length=N:=by rw [List.length_set];exact hzl
   have hrs:∀ w':World,Kp wr w'→Rw (w'.setCell ⟨g,k,none⟩ (.int .u32 (Z:Int))) g N (zs.set k (Z:Int)):=fun w' h=>(hrow.grown h).set k Z (by omega)
   have hkk:k<N:=by omega
   have i0:(0:Int)≤(k:Int):=by omega
   have i1:(k:Int)<(N:Int):=by omega
   have i2:(k:Int)<(M:Int):=by omega
   have hgw:=HG.out
   clear hc hc' HX HY HW HN HG hN hM hX hY hv hZ hC2 wx wy hwz hC hwx hwy hzX hsam hzl hrow hst hle
   go_wp2
   go_region_held3 (fun w'=>w'.cell? ⟨b,off+k,none⟩=some (.int .u32 (X:Int))∧w'.cell? ⟨b',off'+k,none⟩=some (.int .u32 (Y:Int))) (first | (exact ⟨e1,e2⟩) | (exact ⟨(World.cell?_setCell_far _ _ _ _ (Ne.symm hbg)).trans e1,(World.cell?_setCell_far _ _ _ _ (Ne.symm hbg')).trans e2⟩)) (first | (go_at_call 270;refine (had _).mono ?_;rintro e w' ⟨rfl,rfl⟩))
   have hR:Rw (wr.setCell ⟨g,k,none⟩ (.int .u32 (Z:Int))).drew g N (zs.set k (Z:Int)):=hrs wr (Kp.refl _)
   have hK:Kp w (wr.setCell ⟨g,k,none⟩ (.int .u32 (Z:Int))).drew:=(hkp.setCell hgw _).drew
   clear hrs hkp e1 e2 e3 e4 had
   go_wp2
   exact ⟨⟨k+1,C',zs.set k (Z:Int),rfl,by go_num,by omega,hR,hl2,hw2,hC',hs2,hsam2,hK⟩,by simp [intOf];omega⟩
  ·have hkM:k=M:=by omega
   subst hkM
   rw [hM,List.take_length,← hM] at hv
   have i2:¬ ((k:Int)<(k:Int)):=by omega
   have HV:Hid (val zs+val ys=val xs+C*4294967296 ^ k):=hv
   clear hv HX HY hsam hk ck hN hM hNM hwx hwy hle
   go_wp2
   go_loopw [6,8] (fun cc i wq=>∃ (j C:Nat) (zs:List Int),cc=.int .u32 C∧i=.int .i64 j∧Rw wq g N zs∧zs.length=N∧Wd zs∧C≤1∧val zs+val ys=val xs+C*4294967296 ^ j∧Kp w wq∧j≤N) (fun _ i _=>N+1 - (intOf i).toNat)
   case atStart=>exact ⟨k,C,zs,rfl,rfl,hrow,hzl,hwz,hC,HV.out,hkp,by have:=HN.out.2.2;omega⟩
   case round =>
    clear hrow hzl hwz hC HV hkp
    obtain ⟨j,C,zs,rfl,rfl,hrow,hzl,hwz,hC,hv,hkp,hj⟩:=hrel
    obtain ⟨hN,hM,hNM⟩:=HN.out
    obtain ⟨hwx,hwy,hle⟩:=HW.out
    rcases (by omega:C=0∨C=1) with rfl | rfl
    ·rw [Nat.zero_mul,Nat.add_zero] at hv
     have hv2:val zs=val xs - val ys:=by omega
     have hA:=hrow.arr N (Nat.le_refl _) (by omega)
     rw [List.take_of_length_le (by omega)] at hA
     have htr:=trim_ (some ⟨g,0,none⟩) N zs wr hA (by omega) (by omega)
     have hO:Own wr w.heap.size (.slice (some ⟨g,0,none⟩) (tl zs) N) (dig (val xs - val ys)):=by
      have h1:=Own.of_row (base:=w.heap.size) (k:=tl zs) hrow HG.out (by have:=tl_le zs;omega) hzl (by unfold maxLen;omega)
      have h2:zs.take (tl zs)=dig (val xs - val ys):=by rw [← hv2,← nz_dig zs hwz];rfl
      rw [h2] at h1
      exact h1
     rw [hzl] at htr
     obtain ⟨T,hT⟩:∃ T,T=tl zs:=⟨_,rfl⟩
     rw [← hT] at htr hO
     clear hA hrow hzl hwz hC hv hj hT HW HN HG hN hM hNM hwx hwy i2 hle hv2
     go_wp2_with (first | (go_at_call 241;refine htr.mono ?_;rintro e w' ⟨rfl,rfl⟩))
     exact BR (v:=.slice (some ⟨g,0,none⟩) T N) (by simp [results,Tryz.results248,go_sem] <;> simp only [*]) rfl ⟨_,rfl,hO,hkp⟩
    ·have hjN:j<N:=diff_room zs xs ys j N hzl hwz hle hv
     have e3:=World.rowIs.cell hrow (i:=j) (by omega)
     have e4:=World.rowIs.frozen hrow j
     have wz:=hwz j
     obtain ⟨Z0,hZ0⟩:∃ Z0:Nat,(Z0:Int)=zs.getD j 0:=⟨(zs.getD j 0).toNat,by omega⟩
     have hst:=fun (C' Z:Nat) h=>diff_step zs j 1 C' Z _ _ (Z0:Int) 0 (by omega) hZ0.symm h hv
     simp only [Int.toNat_natCast] at hst
     obtain ⟨Z,hZ⟩:∃ Z:Nat,Z=(Z0+8589934592 - 0 - 1) % 4294967296:=⟨_,rfl⟩
     obtain ⟨C',hC2⟩:∃ C':Nat,C'=if Z0<0+1 then 1 else 0:=⟨_,rfl⟩
     have had:∀ w:World,Calls Tryz.prog 270 #[.int .u32 (Z0:Int),.int .u32 0,.int .u32 1] w fun e w'=>e=.returned (.tuple #[.int .u32 (Z:Int),.int .u32 (C':Int)])∧w'=w:=by
      rw [hZ,hC2];exact sub32_ Z0 0 1 (by omega) (by omega) (by omega)
     have hC':C'≤1:=by rw [hC2];split <;> omega
     have hs2:=hst C' Z (by rw [show (0:Int).toNat=0 from rfl,hC2,hZ];split <;> omega)
     rw [show (0:Int).toNat=0 from rfl,Nat.zero_mul,Nat.add_zero] at hs2
     have hw2:Wd (zs.set j (Z:Int)):=hwz.set j Z (by omega)
     have hl2:(zs.set j (Z:Int)).length=N:=by rw [List.length_set];exact hzl
     have hR:Rw (wr.setCell ⟨g,j,none⟩ (.int .u32 (Z:Int))) g N (zs.set j (Z:Int)):=hrow.set j Z (by omega)
     have hK:Kp w (wr.setCell ⟨g,j,none⟩ (.int .u32 (Z:Int))):=hkp.setCell HG.out _
     have e3':wr.cell? ⟨g,j,none⟩=some (.int .u32 (Z0:Int)):=by rw [hZ0];exact e3
     have i0:(0:Int)≤(j:Int):=by omega
     have i3:(j:Int)<(N:Int):=by omega
     clear e3 hrow hzl hwz hC hv hZ hC2 hZ0 wz HW HN HG hN hM hNM hwx hwy i2 hkp hst hle
     go_wp2_with (first | (go_at_call 270;refine (had _).mono ?_;rintro e w' ⟨rfl,rfl⟩))
     exact ⟨⟨j+1,C',zs.set j (Z:Int),rfl,by go_num,hR,hl2,hw2,hC',hs2,hK,by omega⟩,by simp [intOf];omega⟩
theorem nsub_ (p q:Option Addr) (c d:Nat) (xs ys:List Int) (w:World) (hx:Arr w p xs) (hy:Arr w q ys) (hwx:Wd xs) (hwy:Wd ys) (lx:xs.length<1099511627775) (ly:ys.length<1099511627775) (hc:xs.length≤c) (hd:ys.length≤d) :
  Calls Tryz.prog 213 #[.slice p xs.length c,.slice q ys.length d] w fun e w'=>∃ v,e=.returned (.tuple #[v,.int .i64 (subN (val xs) (val ys)).2])∧Own w' w.heap.size v (subN (val xs) (val ys)).1∧Kp w w':=by
 have h1:=trim_ p c xs w hx (by omega) hc
 have h2:=trim_ q d ys w hy (by omega) hd
 have lS:=tl_le xs
 have lT:=tl_le ys
 have h3:=ncmp_ p q c d (nz xs) (nz ys) w (hx.take _) (hy.take _) (hwx.take _) (hwy.take _) (by rw [nz_length];omega) (by rw [nz_length];omega) (by rw [nz_length];omega) (by rw [nz_length];omega)
 have h4:=tooLong_ p (tl xs) c
 rw [nz_length,nz_length,val_nz,val_nz] at h3
 have hb:val ys≤val xs→tl ys≤tl xs:=tl_mono ys xs hwy hwx
 have h5:val ys≤val xs→∀ w',Kp w w'→Calls Tryz.prog 248 #[.slice p (tl xs) c,.slice q (tl ys) d] w' fun e w''=>∃ v,e=.returned v∧Own w'' w'.heap.size v (dig (val xs - val ys))∧Kp w' w'':=fun hle w' k=>by
  have:=diff_ p q c d (nz xs) (nz ys) w' ((hx.take _).grown k) ((hy.take _).grown k) (hwx.take _) (hwy.take _) (by rw [nz_length];omega) (by rw [nz_length,nz_length];exact hb hle) (by rw [val_nz,val_nz];exact hle)
  rw [nz_length,nz_length,val_nz,val_nz] at this
  exact this
 have e1:=tl_len xs hwx
 obtain ⟨N,hN⟩:∃ N,N=xs.length:=⟨_,rfl⟩
 obtain ⟨M,hM⟩:∃ M,M=ys.length:=⟨_,rfl⟩
 obtain ⟨S,hS⟩:∃ S,S=tl xs:=⟨_,rfl⟩
 obtain ⟨T,hT⟩:∃ T,T=tl ys:=⟨_,rfl⟩
 obtain ⟨a,ha⟩:∃ a,a=val xs:=⟨_,rfl⟩
 obtain ⟨b,hb'⟩:∃ b,b=val ys:=⟨_,rfl⟩
 rw [← hN,← hS] at h1
 rw [← hM,← hT] at h2
 rw [← hS,← hT,← ha,← hb'] at h3 h5
 rw [← hS] at h4 e1
 rw [← ha] at e1
 rw [← hN,← hM,← ha,← hb']
 clear hx hy hwx hwy lx ly hc hd hN hM hS hT lS lT hb ha hb'
 by_cases c1:a<b
 ·rw [cmpN_lt c1] at h3
  have e3:subN a b=([],1):=by unfold subN;rw [if_pos c1]
  rw [e3]
  clear h4 h5 c1 e1 e3
  go_enter Tryz.func213,Tryz.ntmps213
  go_wp2_with fail
  refine SM h1 ?_
  go_wp2_with fail
  refine SM h2 ?_
  go_wp2_with fail
  refine h3.mono ?_;rintro e w1 ⟨rfl,k1⟩
  go_wp2
  exact BR (v:=.tuple #[.slice none 0 0,.int .i64 1]) (by simp [results,Tryz.results213,go_sem] <;> simp only [*]) rfl ⟨_,rfl,Own.nil _ _,k1⟩
 have t1:¬ (cmpN a b<0):=by
  unfold cmpN;rw [if_neg c1];split <;> omega
 obtain ⟨R,hR⟩:∃ R,R=cmpN a b:=⟨_,rfl⟩
 rw [← hR] at h3 t1
 by_cases c2:16384<S
 ·rw [decide_eq_true c2] at h4
  have e3:subN a b=([],2):=by unfold subN;rw [if_neg c1,if_pos (by omega)]
  rw [e3]
  clear h5 c1 c2 e1 e3 hR
  go_enter Tryz.func213,Tryz.ntmps213
  go_wp2_with fail
  refine SM h1 ?_
  go_wp2_with fail
  refine SM h2 ?_
  go_wp2_with fail
  refine h3.mono ?_;rintro e w1 ⟨rfl,k1⟩
  go_wp2_with fail
  refine (h4 _).mono ?_;rintro e w' ⟨rfl,rfl⟩
  go_wp2
  exact BR (v:=.tuple #[.slice none 0 0,.int .i64 2]) (by simp [results,Tryz.results213,go_sem] <;> simp only [*]) rfl ⟨_,rfl,Own.nil _ _,k1⟩
 rw [decide_eq_false c2] at h4
 have e3:subN a b=(dig (a - b),0):=by unfold subN;rw [if_neg c1,if_neg (by omega)]
 rw [e3]
 have h6:=h5 (by omega)
 clear h5 c1 c2 e1 e3 hR
 go_enter Tryz.func213,Tryz.ntmps213
 go_wp2_with fail
 refine SM h1 ?_
 go_wp2_with fail
 refine SM h2 ?_
 go_wp2_with fail
 refine h3.mono ?_;rintro e w1 ⟨rfl,k1⟩
 go_wp2_with fail
 refine (h4 _).mono ?_;rintro e w' ⟨rfl,rfl⟩
 go_wp2_with fail
 refine (h6 _ k1).mono ?_;rintro e w2 ⟨v,rfl,hO,k2⟩
 go_wp2
 exact BR (v:=.tuple #[v,.int .i64 0]) (by simp [results,Tryz.results213,go_sem] <;> simp only [*]) rfl ⟨_,rfl,hO.mono k1.size,k1.trans k2⟩
theorem stepped_ (d V:Int) (s o sz:Bool) (r ro K:Nat) (hK:53≤K) (hK2:K≤2096) (hv:V.natAbs<2 ^ K) (hr1:r<9218868437227405312) (hro:ro<9218868437227405312) (hr:r=rgU 53 (rU 0 53 V.natAbs 1)) (hs:s=(if V=0 then sz else decide (V<0))) (ho:Iv o ro=V - Iv s r) (w:World) :
  Calls Tryz.prog 176 #[.int .i64 d,.float .f64 (Fq.wD s r),.float .f64 (Fq.wD o ro)] w fun e w'=>e=.returned (.float .f64 (sumW d V))∧Kp w w':=by
 obtain ⟨S1,S2,S3⟩:=step_w d V s o sz r ro K hK hK2 hv hr hs ho
 have hz:(0:Nat)=Fq.wD false 0:=rfl
 have hord:FloatKind.f64.format.order (Fq.wD o ro) 0=some (compare (Fq.plz o ro) 0):=by
  rw [hz,Fq.ordD o false ro 0 (by omega) (by decide)];rfl
 obtain ⟨P,hP⟩:∃ P,P=Fq.plz o ro:=⟨_,rfl⟩
 rw [← hP] at S1 S2 S3 hord
 obtain ⟨O,hO⟩:∃ O,O=Fq.wD o ro:=⟨_,rfl⟩
 obtain ⟨Z,hZ⟩:∃ Z,Z=sumW d V:=⟨_,rfl⟩
 obtain ⟨N,hN⟩:∃ N,N=Fq.wD s r:=⟨_,rfl⟩
 rw [← hZ] at S1 S2 S3
 rw [← hO] at hord
 rw [← hO,← hZ,← hN]
 have hup:=fun h=>Fq.up_d s r (by omega) h w
 have hdn:=fun h=>Fq.dn_d s r (by omega) h w
 have hpl:=Fq.plain_d s r (by omega) w
 rw [← hN] at hup hdn hpl
 clear hO hN hZ hr hs ho hP hz hv hK hK2 hr1 hro
 by_cases c1:d = -1
 ·by_cases c2:P<0
  ·obtain ⟨a1,a2⟩:=S1 c1 c2
   have hc:=hdn a1
   rw [a2] at hc
   have o1:(FloatKind.f64.format.order O 0 == some .lt)=true:=by rw [hord,Int.compare_eq_lt.2 c2];rfl
   subst c1
   clear S1 S2 S3 hup hdn hpl hord c2 a1 a2
   go_enter Tryz.func176,Tryz.ntmps176
   go_wp2_with fail
   refine hc.mono ?_;rintro e w1 ⟨rfl,hk⟩
   clear hc
   go_wp2
   exact BR (v:=.float .f64 Z) (by simp [results,Tryz.results176,go_sem]) rfl ⟨rfl,hk⟩
  ·have hc:=hpl
   rw [S3 (fun h=>c2 h.2) (fun h=>by omega)] at hc
   have o1:(FloatKind.f64.format.order O 0 == some .lt)=false:=by
    rw [hord]
    rcases Int.lt_trichotomy P 0 with h | h | h
    ·exact absurd h c2
    ·rw [Int.compare_eq_eq.2 h];rfl
    ·rw [Int.compare_eq_gt.2 h];rfl
   subst c1
   clear S1 S2 S3 hup hdn hpl hord c2
   go_enter Tryz.func176,Tryz.ntmps176
   go_wp2_with fail
   refine hc.mono ?_;rintro e w1 ⟨rfl,hw⟩
   obtain rfl:=hw.symm
   clear hc
   go_wp2
   exact BR (v:=.float .f64 Z) (by simp [results,Tryz.results176,go_sem]) rfl ⟨rfl,Kp.refl _⟩
 ·have e1:(d == -1)=false:=by simp [c1]
  by_cases c3:d=1
  ·by_cases c2:0<P
   ·obtain ⟨a1,a2⟩:=S2 c3 c2
    have hc:=hup a1
    rw [a2] at hc
    have o1:(FloatKind.f64.format.order O 0 == some .gt)=true:=by rw [hord,Int.compare_eq_gt.2 c2];rfl
    subst c3
    clear S1 S2 S3 hup hdn hpl hord c2 a1 a2 c1
    go_enter Tryz.func176,Tryz.ntmps176
    go_wp2_with fail
    refine hc.mono ?_;rintro e w1 ⟨rfl,hk⟩
    clear hc
    go_wp2
    exact BR (v:=.float .f64 Z) (by simp [results,Tryz.results176,go_sem]) rfl ⟨rfl,hk⟩
   ·have hc:=hpl
    rw [S3 (fun h=>c1 h.1) (fun h=>c2 h.2)] at hc
    have o1:(FloatKind.f64.format.order O 0 == some .gt)=false:=by
     rw [hord]
     rcases Int.lt_trichotomy P 0 with h | h | h
     ·rw [Int.compare_eq_lt.2 h];rfl
     ·rw [Int.compare_eq_eq.2 h];rfl
     ·exact absurd h c2
    subst c3
    clear S1 S2 S3 hup hdn hpl hord c2 c1
    go_enter Tryz.func176,Tryz.ntmps176
    go_wp2_with fail
    refine hc.mono ?_;rintro e w1 ⟨rfl,hw⟩
    obtain rfl:=hw.symm
    clear hc
    go_wp2
    exact BR (v:=.float .f64 Z) (by simp [results,Tryz.results176,go_sem]) rfl ⟨rfl,Kp.refl _⟩
  ·have e2:(d == 1)=false:=by simp [c3]
   have hc:=hpl
   rw [S3 (fun h=>c1 h.1) (fun h=>c3 h.1)] at hc
   clear S1 S2 S3 hup hdn hpl hord c1 c3
   go_enter Tryz.func176,Tryz.ntmps176
   go_wp2_with fail
   refine hc.mono ?_;rintro e w1 ⟨rfl,hw⟩
   obtain rfl:=hw.symm
   clear hc
   go_wp2
   exact BR (v:=.float .f64 Z) (by simp [results,Tryz.results176,go_sem]) rfl ⟨rfl,Kp.refl _⟩
theorem plusEq_ (s t:Bool) (a b:Nat) (ea eb low:Int) (pa pb:Option Addr) (ca cb:Nat) (w:World) (ha:Arr w pa (dig a)) (hca:(dig a).length≤ca) (hb:Arr w pb (dig b)) (hcb:(dig b).length≤cb) (la:a<9007199254740992) (lb:b<9007199254740992) (ea1:-1074≤ea) (ea2:ea≤2048) (eb1:-1074≤eb) (eb2:eb≤2048) (hlow:low=min ea eb) (A' B':Nat) (hA:A'=a*2 ^ (ea - low).toNat) (hB':B'=b*2 ^ (eb - low).toNat) (hst:s=t) :
  Calls Tryz.prog 179 #[.agg #[.bool s,.slice pa (dig a).length ca,.int .i64 ea],.agg #[.bool t,.slice pb (dig b).length cb,.int .i64 eb]] w fun e w'=>∃ v,e=.returned (.agg #[.bool s,v,.int .i64 low])∧Ls w' v (dig (A'+B'))∧Kp w w':=by
 obtain ⟨La,hLa⟩:∃ La,La=(dig a).length:=⟨_,rfl⟩
 obtain ⟨Lb,hLb⟩:∃ Lb,Lb=(dig b).length:=⟨_,rfl⟩
 rw [← hLa,← hLb]
 obtain ⟨B,hB⟩:∃ B,B=w.heap.size:=⟨_,rfl⟩
 obtain ⟨w0,hw0⟩:∃ w0,w0=((w.alloc (.cells #[.bool s,.slice pa La ca,.int .i64 ea] 149)).alloc (.cells #[.bool t,.slice pb Lb cb,.int .i64 eb] 149)).alloc (.cells #[.bool false,.slice none 0 0,.int .i64 0] 149):=⟨_,rfl⟩
 have hk0:Kp w w0:=by rw [hw0];exact (((Kp.refl w).alloc _).alloc _).alloc _
 obtain ⟨x0,x1,x2,y0,y1,y2,z0,z1,z2,f0,f1,f2,i0,i1,i2⟩:w0.cell? ⟨B,0,none⟩=some (.bool s)∧w0.cell? ⟨B,1,none⟩=some (.slice pa La ca)∧w0.cell? ⟨B,2,none⟩=some (.int .i64 ea)∧w0.cell? ⟨B+1,0,none⟩=some (.bool t)∧w0.cell? ⟨B+1,1,none⟩=some (.slice pb Lb cb)∧w0.cell? ⟨B+1,2,none⟩=some (.int .i64 eb)∧w0.cell? ⟨B+2,0,none⟩=some (.bool false)∧w0.cell? ⟨B+2,1,none⟩=some (.slice none 0 0)∧w0.cell? ⟨B+2,2,none⟩=some (.int .i64 0)∧w0.frozen? ⟨B+2,0,none⟩=false∧w0.frozen? ⟨B+2,1,none⟩=false∧w0.frozen? ⟨B+2,2,none⟩=false∧w0.frozen? ⟨B,0,none⟩=false∧w0.frozen? ⟨B,1,none⟩=false∧w0.frozen? ⟨B,2,none⟩=false:=by rw [hw0,hB];simp [go_sem]
 have hlt:=cell_lt z0
 have hlt1:B<w0.heap.size:=cell_lt x0
 -- lengths
 obtain ⟨X4,hX4⟩:∃ X4:Nat,X4=4096:=⟨_,rfl⟩
 have bA:blen A'≤X4:=by
  rw [hA,blen_le_iff]
  have h1:2 ^ 53*2 ^ (ea - low).toNat≤2 ^ X4:=by rw [← Nat.pow_add];exact Nat.pow_le_pow_right (by omega) (by omega)
  have h2:a*2 ^ (ea - low).toNat<2 ^ 53*2 ^ (ea - low).toNat:=Nat.mul_lt_mul_of_pos_right (by rw [show (2:Nat) ^ 53=9007199254740992 from by decide];exact la) (Nat.two_pow_pos _)
  exact Nat.lt_of_lt_of_le h2 h1
 have bB:blen B'≤X4:=by
  rw [hB',blen_le_iff]
  have h1:2 ^ 53*2 ^ (eb - low).toNat≤2 ^ X4:=by rw [← Nat.pow_add];exact Nat.pow_le_pow_right (by omega) (by omega)
  have h2:b*2 ^ (eb - low).toNat<2 ^ 53*2 ^ (eb - low).toNat:=Nat.mul_lt_mul_of_pos_right (by rw [show (2:Nat) ^ 53=9007199254740992 from by decide];exact lb) (Nat.two_pow_pos _)
  exact Nat.lt_of_lt_of_le h2 h1
 have lAB:len32 (A'+B')≤16000:=dlen (A'+B') 16000 (by
  have h1:=(blen_le_iff A' X4).1 bA
  have h2:=(blen_le_iff B' X4).1 bB
  have h3:blen (A'+B')≤X4+1:=by rw [blen_le_iff,Nat.pow_succ];omega
  omega)
 have lA:len32 A'≤16000:=dlen A' 16000 (by omega)
 have lB:len32 B'≤16000:=dlen B' 16000 (by omega)
 have ba:blen a≤53:=by rw [blen_le_iff,show (2:Nat) ^ 53=9007199254740992 from by decide];exact la
 have bb:blen b≤53:=by rw [blen_le_iff,show (2:Nat) ^ 53=9007199254740992 from by decide];exact lb
 have la3:len32 a≤2:=dlen a 2 (by omega)
 have lb3:len32 b≤2:=dlen b 2 (by omega)
 have shl_:∀ (u:Nat) (e:Int) (U:Nat) (pu:Option Addr) (cu Lu:Nat) (w1:World),Arr w1 pu (dig u)→(dig u).length≤cu→Lu=(dig u).length→blen u≤53→len32 u≤2→0≤e→e≤4000→U=u*2 ^ e.toNat→Calls Tryz.prog 210 #[.slice pu Lu cu,.int .i64 e] w1 fun r w'=>∃ p c,r=.returned (.tuple #[.slice p (dig U).length c,.int .i64 0])∧Arr w' p (dig U)∧(dig U).length≤c∧(∀ g o,p=some ⟨g,o,none⟩→w1.heap.size≤g)∧Kp w1 w':=fun u e U pu cu Lu w1 au lu hl b1 b2 e1 e2 hU=>by
  subst hl
  have g:=nshl_ pu cu (dig u) w1 e au (Wd_dig u) (by change len32 u≤_;omega) lu
  rw [val_dig] at g
  have hs:shlN u e=(dig U,0):=by
   unfold shlN
   rw [if_neg (by omega),if_neg (by omega)]
   by_cases c0:u=0
   ·rw [if_pos c0,hU,c0,Nat.zero_mul,dig_zero]
   ·rw [if_neg c0,if_neg (by omega),hU]
  rw [hs] at g
  refine g.mono ?_
  rintro r w' ⟨v,h1,h2,h3⟩
  obtain ⟨p,c,rfl,h4,h5⟩:=h2.arr
  refine ⟨p,c,h1,h4,h5,fun g o hg=>?_,h3⟩
  rcases h2.2 with ⟨h',_⟩ | ⟨g',cap,cur,h6,h7,_⟩
  ·rw [hg] at h';cases h'
  ·rw [hg] at h6;cases h6;exact h7
 have q1:=shl_ a (ea - low) A' pa ca La w0 (ha.grown hk0) hca hLa ba la3 (by omega) (by omega) hA
 have q2:=fun w1 (k:Kp w0 w1)=>shl_ b (eb - low) B' pb cb Lb w1 (hb.grown (hk0.trans k)) hcb hLb bb lb3 (by omega) (by omega) hB'
 have g2:∀ w:World,(Builtin.min_ #[3,3] 3 #[.int .i64 ea,.int .i64 eb]).run Tryz.prog w=.ok (.int .i64 low) w:=fun w=>by
  rw [run_min_int2]
  congr 2
  split <;> omega
 have w1e:wrap64 (ea - low)=ea - low:=w64x _ (by omega) (by omega)
 have w2e:wrap64 (eb - low)=eb - low:=w64x _ (by omega) (by omega)
 have HW:Hid (w0=((w.alloc (.cells #[.bool s,.slice pa La ca,.int .i64 ea] 149)).alloc (.cells #[.bool t,.slice pb Lb cb,.int .i64 eb] 149)).alloc (.cells #[.bool false,.slice none 0 0,.int .i64 0] 149)∧B=w.heap.size∧Kp w w0∧len32 A'≤16000∧len32 B'≤16000∧len32 (A'+B')≤16000):=⟨hw0,hB,hk0,lA,lB,lAB⟩
 have hel:-1074≤low∧low≤2048∧ea - low≤4000∧eb - low≤4000∧0≤ea - low∧0≤eb - low:=by omega
 have HE:Hid (-1074≤low∧low≤2048∧ea - low≤4000∧eb - low≤4000∧0≤ea - low∧0≤eb - low):=hel
 clear hX4 hel shl_ ha hca hb hcb la lb hA hB' hLa hLb hw0 hB hk0 bA bB lA lB lAB ba bb la3 lb3 hlow
 subst hst
 go_enter Tryz.func179,Tryz.ntmps179
 go_wp2_with fail
 rw [← HW.out.2.1]
 try rw [← HW.out.1]
 refine q1.mono ?_;rintro e w1 ⟨p1,c1,rfl,a1,l1,n1,k1⟩
 obtain ⟨L1,hL1⟩:∃ L1,L1=(dig A').length:=⟨_,rfl⟩
 rw [← hL1]
 have HL1:Hid (L1=(dig A').length):=hL1
 clear hL1
 replace y0:=kkeep k1 y0
 replace y1:=kkeep k1 y1
 replace y2:=kkeep k1 y2
 replace x0:=kkeep k1 x0
 replace x1:=kkeep k1 x1
 replace x2:=kkeep k1 x2
 have q3:=q2 w1 k1
 clear q1 q2
 go_wp2_with fail
 refine q3.mono ?_;rintro e w2 ⟨p2,c2,rfl,a2,l2,n2,k2⟩
 obtain ⟨L2,hL2⟩:∃ L2,L2=(dig B').length:=⟨_,rfl⟩
 rw [← hL2]
 have k02:=k1.trans k2
 replace y0:=kkeep k2 y0
 replace y1:=kkeep k2 y1
 replace y2:=kkeep k2 y2
 replace x0:=kkeep k2 x0
 replace x1:=kkeep k2 x1
 replace x2:=kkeep k2 x2
 have HA2:Hid (Arr w2 p1 (dig A')∧L1=(dig A').length∧L1≤c1∧Arr w2 p2 (dig B')∧L2=(dig B').length∧L2≤c2∧Kp w0 w2∧(∀ g o,p1=some ⟨g,o,none⟩→g≠B)∧(∀ g o,p2=some ⟨g,o,none⟩→g≠B)):=⟨a1.grown k2,HL1.out,by rw [HL1.out];exact l1,a2,hL2,by rw [hL2];exact l2,k02,fun g o h=>by have:=n1 g o h;omega,fun g o h=>by have:=n2 g o h;have:=Below.size k1;omega⟩
 clear q3 a1 l1 a2 l2 k1 k2 k02 HL1 hL2 n1 n2
 have q4:Calls Tryz.prog 211 #[.slice p1 L1 c1,.slice p2 L2 c2] w2 fun e w'=>∃ v,e=.returned (.tuple #[v,.int .i64 0])∧Own w' w2.heap.size v (dig (A'+B'))∧Kp w2 w':=by
  obtain ⟨h1,h2,h3,h4,h5,h6,-,-,-⟩:=HA2.out
  obtain ⟨-,-,-,b1,b2,b3⟩:=HW.out
  have g:=nadd_ p1 p2 c1 c2 (dig A') (dig B') w2 h1 h4 (Wd_dig _) (Wd_dig _) (by change len32 _<_;omega) (by change len32 _<_;omega) (by rw [← h2];exact h3) (by rw [← h5];exact h6)
  rw [val_dig,val_dig] at g
  have hs:addN A' B'=(dig (A'+B'),0):=by
   unfold addN
   rw [if_neg (by omega),if_neg (by omega)]
  rw [hs,← h2,← h5] at g
  exact g
 go_wp2_with fail
 refine q4.mono ?_;rintro e w3 ⟨v,rfl,ho,k3⟩
 have KK:Kp w0 w2:=HA2.out.2.2.2.2.2.2.1
 replace x0:=kkeep k3 x0
 clear q4 x1 x2 y0 y1 y2 HA2
 have hls:=ho.ls
 obtain ⟨pv,cv,rfl,hav,hcv⟩:=ho.arr
 have k03:=KK.trans k3
 replace z0:=kkeep k03 z0
 replace z1:=kkeep k03 z1
 replace z2:=kkeep k03 z2
 replace f0:=(kfro k03 hlt).trans f0
 replace f1:=(kfro k03 hlt).trans f1
 replace f2:=(kfro k03 hlt).trans f2
 obtain ⟨LV,hLV⟩:∃ LV,LV=(dig (A'+B')).length:=⟨_,rfl⟩
 rw [← hLV]
 have HO:Hid (Own w3 w2.heap.size (.slice pv (dig (A'+B')).length cv) (dig (A'+B'))∧LV=(dig (A'+B')).length∧Kp w0 w3∧B+2<w2.heap.size):=⟨ho,hLV,k03,by have:=Below.size KK;omega⟩
 clear ho hls hav hcv k3 k03 hLV KK
 go_wp2
 obtain ⟨ho,hL,k03,hBl⟩:=HO.out
 have kb:Kb (B+2) w3 (((w3.setCell ⟨B+2,0,none⟩ (.bool s)).setCell ⟨B+2,1,none⟩ (.slice pv LV cv)).setCell ⟨B+2,2,none⟩ (.int .i64 low)):=(((Kb.refl (B+2) w3).setCell 0 _).setCell 1 _).setCell 2 _
 have ho2:=ho.kb kb (fun g hg=>by have:=ho.lt g hg;omega)
 have hls:=ho2.ls
 rw [← hL] at hls
 have hkw:Kp w (((w3.setCell ⟨B+2,0,none⟩ (.bool s)).setCell ⟨B+2,1,none⟩ (.slice pv LV cv)).setCell ⟨B+2,2,none⟩ (.int .i64 low)):=kb.kp (HW.out.2.2.1.trans k03) (by rw [HW.out.2.1];omega)
 exact BR (v:=.agg #[.bool s,.slice pv LV cv,.int .i64 low]) (by simp [results,Tryz.results179,go_sem,z0,z1,z2]) rfl ⟨_,rfl,hls,hkw⟩
theorem plusGe_ (s t:Bool) (a b:Nat) (ea eb low:Int) (pa pb:Option Addr) (ca cb:Nat) (w:World) (ha:Arr w pa (dig a)) (hca:(dig a).length≤ca) (hb:Arr w pb (dig b)) (hcb:(dig b).length≤cb) (la:a<9007199254740992) (lb:b<9007199254740992) (ea1:-1074≤ea) (ea2:ea≤2048) (eb1:-1074≤eb) (eb2:eb≤2048) (hlow:low=min ea eb) (A' B':Nat) (hA:A'=a*2 ^ (ea - low).toNat) (hB':B'=b*2 ^ (eb - low).toNat) (hst:s≠t) (hge:B'≤A') :
  Calls Tryz.prog 179 #[.agg #[.bool s,.slice pa (dig a).length ca,.int .i64 ea],.agg #[.bool t,.slice pb (dig b).length cb,.int .i64 eb]] w fun e w'=>∃ v,e=.returned (.agg #[.bool s,v,.int .i64 low])∧Ls w' v (dig (A' - B'))∧Kp w w':=by
 obtain ⟨La,hLa⟩:∃ La,La=(dig a).length:=⟨_,rfl⟩
 obtain ⟨Lb,hLb⟩:∃ Lb,Lb=(dig b).length:=⟨_,rfl⟩
 rw [← hLa,← hLb]
 obtain ⟨B,hB⟩:∃ B,B=w.heap.size:=⟨_,rfl⟩
 obtain ⟨w0,hw0⟩:∃ w0,w0=((w.alloc (.cells #[.bool s,.slice pa La ca,.int .i64 ea] 149)).alloc (.cells #[.bool t,.slice pb Lb cb,.int .i64 eb] 149)).alloc (.cells #[.bool false,.slice none 0 0,.int .i64 0] 149):=⟨_,rfl⟩
 have hk0:Kp w w0:=by rw [hw0];exact (((Kp.refl w).alloc _).alloc _).alloc _
 obtain ⟨x0,x1,x2,y0,y1,y2,z0,z1,z2,f0,f1,f2,i0,i1,i2⟩:w0.cell? ⟨B,0,none⟩=some (.bool s)∧w0.cell? ⟨B,1,none⟩=some (.slice pa La ca)∧w0.cell? ⟨B,2,none⟩=some (.int .i64 ea)∧w0.cell? ⟨B+1,0,none⟩=some (.bool t)∧w0.cell? ⟨B+1,1,none⟩=some (.slice pb Lb cb)∧w0.cell? ⟨B+1,2,none⟩=some (.int .i64 eb)∧w0.cell? ⟨B+2,0,none⟩=some (.bool false)∧w0.cell? ⟨B+2,1,none⟩=some (.slice none 0 0)∧w0.cell? ⟨B+2,2,none⟩=some (.int .i64 0)∧w0.frozen? ⟨B+2,0,none⟩=false∧w0.frozen? ⟨B+2,1,none⟩=false∧w0.frozen? ⟨B+2,2,none⟩=false∧w0.frozen? ⟨B,0,none⟩=false∧w0.frozen? ⟨B,1,none⟩=false∧w0.frozen? ⟨B,2,none⟩=false:=by rw [hw0,hB];simp [go_sem]
 have hlt:=cell_lt z0
 have hlt1:B<w0.heap.size:=cell_lt x0
 -- lengths
 obtain ⟨X4,hX4⟩:∃ X4:Nat,X4=4096:=⟨_,rfl⟩
 have bA:blen A'≤X4:=by
  rw [hA,blen_le_iff]
  have h1:2 ^ 53*2 ^ (ea - low).toNat≤2 ^ X4:=by rw [← Nat.pow_add];exact Nat.pow_le_pow_right (by omega) (by omega)
  have h2:a*2 ^ (ea - low).toNat<2 ^ 53*2 ^ (ea - low).toNat:=Nat.mul_lt_mul_of_pos_right (by rw [show (2:Nat) ^ 53=9007199254740992 from by decide];exact la) (Nat.two_pow_pos _)
  exact Nat.lt_of_lt_of_le h2 h1
 have bB:blen B'≤X4:=by
  rw [hB',blen_le_iff]
  have h1:2 ^ 53*2 ^ (eb - low).toNat≤2 ^ X4:=by rw [← Nat.pow_add];exact Nat.pow_le_pow_right (by omega) (by omega)
  have h2:b*2 ^ (eb - low).toNat<2 ^ 53*2 ^ (eb - low).toNat:=Nat.mul_lt_mul_of_pos_right (by rw [show (2:Nat) ^ 53=9007199254740992 from by decide];exact lb) (Nat.two_pow_pos _)
  exact Nat.lt_of_lt_of_le h2 h1
 have lAB:len32 (A'+B')≤16000:=dlen (A'+B') 16000 (by
  have h1:=(blen_le_iff A' X4).1 bA
  have h2:=(blen_le_iff B' X4).1 bB
  have h3:blen (A'+B')≤X4+1:=by rw [blen_le_iff,Nat.pow_succ];omega
  omega)
 have lA:len32 A'≤16000:=dlen A' 16000 (by omega)
 have lB:len32 B'≤16000:=dlen B' 16000 (by omega)
 have ba:blen a≤53:=by rw [blen_le_iff,show (2:Nat) ^ 53=9007199254740992 from by decide];exact la
 have bb:blen b≤53:=by rw [blen_le_iff,show (2:Nat) ^ 53=9007199254740992 from by decide];exact lb
 have la3:len32 a≤2:=dlen a 2 (by omega)
 have lb3:len32 b≤2:=dlen b 2 (by omega)
 have shl_:∀ (u:Nat) (e:Int) (U:Nat) (pu:Option Addr) (cu Lu:Nat) (w1:World),Arr w1 pu (dig u)→(dig u).length≤cu→Lu=(dig u).length→blen u≤53→len32 u≤2→0≤e→e≤4000→U=u*2 ^ e.toNat→Calls Tryz.prog 210 #[.slice pu Lu cu,.int .i64 e] w1 fun r w'=>∃ p c,r=.returned (.tuple #[.slice p (dig U).length c,.int .i64 0])∧Arr w' p (dig U)∧(dig U).length≤c∧(∀ g o,p=some ⟨g,o,none⟩→w1.heap.size≤g)∧Kp w1 w':=fun u e U pu cu Lu w1 au lu hl b1 b2 e1 e2 hU=>by
  subst hl
  have g:=nshl_ pu cu (dig u) w1 e au (Wd_dig u) (by change len32 u≤_;omega) lu
  rw [val_dig] at g
  have hs:shlN u e=(dig U,0):=by
   unfold shlN
   rw [if_neg (by omega),if_neg (by omega)]
   by_cases c0:u=0
   ·rw [if_pos c0,hU,c0,Nat.zero_mul,dig_zero]
   ·rw [if_neg c0,if_neg (by omega),hU]
  rw [hs] at g
  refine g.mono ?_
  rintro r w' ⟨v,h1,h2,h3⟩
  obtain ⟨p,c,rfl,h4,h5⟩:=h2.arr
  refine ⟨p,c,h1,h4,h5,fun g o hg=>?_,h3⟩
  rcases h2.2 with ⟨h',_⟩ | ⟨g',cap,cur,h6,h7,_⟩
  ·rw [hg] at h';cases h'
  ·rw [hg] at h6;cases h6;exact h7
 have q1:=shl_ a (ea - low) A' pa ca La w0 (ha.grown hk0) hca hLa ba la3 (by omega) (by omega) hA
 have q2:=fun w1 (k:Kp w0 w1)=>shl_ b (eb - low) B' pb cb Lb w1 (hb.grown (hk0.trans k)) hcb hLb bb lb3 (by omega) (by omega) hB'
 have g2:∀ w:World,(Builtin.min_ #[3,3] 3 #[.int .i64 ea,.int .i64 eb]).run Tryz.prog w=.ok (.int .i64 low) w:=fun w=>by
  rw [run_min_int2]
  congr 2
  split <;> omega
 have w1e:wrap64 (ea - low)=ea - low:=w64x _ (by omega) (by omega)
 have w2e:wrap64 (eb - low)=eb - low:=w64x _ (by omega) (by omega)
 have HW:Hid (w0=((w.alloc (.cells #[.bool s,.slice pa La ca,.int .i64 ea] 149)).alloc (.cells #[.bool t,.slice pb Lb cb,.int .i64 eb] 149)).alloc (.cells #[.bool false,.slice none 0 0,.int .i64 0] 149)∧B=w.heap.size∧Kp w w0∧len32 A'≤16000∧len32 B'≤16000∧len32 (A'+B')≤16000):=⟨hw0,hB,hk0,lA,lB,lAB⟩
 have hel:-1074≤low∧low≤2048∧ea - low≤4000∧eb - low≤4000∧0≤ea - low∧0≤eb - low:=by omega
 have HE:Hid (-1074≤low∧low≤2048∧ea - low≤4000∧eb - low≤4000∧0≤ea - low∧0≤eb - low):=hel
 clear hX4 hel shl_ ha hca hb hcb la lb hA hB' hLa hLb hw0 hB hk0 bA bB lA lB lAB ba bb la3 lb3 hlow
 have est:(s == t)=false:=by cases s <;> cases t <;> simp_all
 have est':decide (s=t)=false:=by simp [hst]
 clear hst
 have HG:Hid (B'≤A'):=hge
 clear hge
 go_enter Tryz.func179,Tryz.ntmps179
 go_wp2_with fail
 rw [← HW.out.2.1]
 try rw [← HW.out.1]
 refine q1.mono ?_;rintro e w1 ⟨p1,c1,rfl,a1,l1,n1,k1⟩
 obtain ⟨L1,hL1⟩:∃ L1,L1=(dig A').length:=⟨_,rfl⟩
 rw [← hL1]
 have HL1:Hid (L1=(dig A').length):=hL1
 clear hL1
 replace y0:=kkeep k1 y0
 replace y1:=kkeep k1 y1
 replace y2:=kkeep k1 y2
 replace x0:=kkeep k1 x0
 replace x1:=kkeep k1 x1
 replace x2:=kkeep k1 x2
 have q3:=q2 w1 k1
 clear q1 q2
 go_wp2_with fail
 refine q3.mono ?_;rintro e w2 ⟨p2,c2,rfl,a2,l2,n2,k2⟩
 obtain ⟨L2,hL2⟩:∃ L2,L2=(dig B').length:=⟨_,rfl⟩
 rw [← hL2]
 have k02:=k1.trans k2
 replace y0:=kkeep k2 y0
 replace y1:=kkeep k2 y1
 replace y2:=kkeep k2 y2
 replace x0:=kkeep k2 x0
 replace x1:=kkeep k2 x1
 replace x2:=kkeep k2 x2
 have HA2:Hid (Arr w2 p1 (dig A')∧L1=(dig A').length∧L1≤c1∧Arr w2 p2 (dig B')∧L2=(dig B').length∧L2≤c2∧Kp w0 w2∧(∀ g o,p1=some ⟨g,o,none⟩→g≠B)∧(∀ g o,p2=some ⟨g,o,none⟩→g≠B)):=⟨a1.grown k2,HL1.out,by rw [HL1.out];exact l1,a2,hL2,by rw [hL2];exact l2,k02,fun g o h=>by have:=n1 g o h;omega,fun g o h=>by have:=n2 g o h;have:=Below.size k1;omega⟩
 clear q3 a1 l1 a2 l2 k1 k2 k02 HL1 hL2 n1 n2
 have q4:Calls Tryz.prog 212 #[.slice p1 L1 c1,.slice p2 L2 c2] w2 fun e w'=>e=.returned (.int .i64 (cmpN A' B'))∧Kp w2 w':=by
  obtain ⟨h1,h2,h3,h4,h5,h6,-,-,-⟩:=HA2.out
  obtain ⟨-,-,-,b1,b2,b3⟩:=HW.out
  have g:=ncmp_ p1 p2 c1 c2 (dig A') (dig B') w2 h1 h4 (Wd_dig _) (Wd_dig _) (by change len32 _≤_;omega) (by change len32 _≤_;omega) (by rw [← h2];exact h3) (by rw [← h5];exact h6)
  rw [val_dig,val_dig,← h2,← h5] at g
  exact g
 obtain ⟨cv9,hcv9⟩:∃ cv9,cv9=cmpN A' B':=⟨_,rfl⟩
 rw [← hcv9] at q4
 have tcv:¬ cv9<0:=by
  rw [hcv9];unfold cmpN;have:=HG.out;rw [if_neg (by omega)];split <;> omega
 clear hcv9
 go_wp2_with fail
 refine q4.mono ?_;rintro e w3 ⟨rfl,k3⟩
 clear q4
 replace x0:=kkeep k3 x0
 replace x1:=kkeep k3 x1
 replace x2:=kkeep k3 x2
 replace y0:=kkeep k3 y0
 replace y1:=kkeep k3 y1
 replace y2:=kkeep k3 y2
 have q5:Calls Tryz.prog 213 #[.slice p1 L1 c1,.slice p2 L2 c2] w3 fun e w'=>∃ v,e=.returned (.tuple #[v,.int .i64 0])∧Own w' w3.heap.size v (dig (A' - B'))∧Kp w3 w':=by
  obtain ⟨h1,h2,h3,h4,h5,h6,-,h8,h9⟩:=HA2.out
  obtain ⟨-,-,-,b1,b2,b3⟩:=HW.out
  have g:=nsub_ p1 p2 c1 c2 (dig A') (dig B') w3 (h1.grown k3) (h4.grown k3) (Wd_dig _) (Wd_dig _) (by change len32 _<_;omega) (by change len32 _<_;omega) (by rw [← h2];exact h3) (by rw [← h5];exact h6)
  rw [val_dig,val_dig] at g
  have hs:subN A' B'=(dig (A' - B'),0):=by
   unfold subN
   rw [if_neg (by have:=HG.out;omega),if_neg (by omega)]
  rw [hs] at g
  rw [h2,h5]
  exact g
 go_wp2_with fail
 refine q5.mono ?_;rintro e w4 ⟨v,rfl,ho,k4⟩
 have KK:Kp w0 w3:=HA2.out.2.2.2.2.2.2.1.trans k3
 replace x0:=kkeep k4 x0
 clear q5 x1 x2 y0 y1 y2 HA2 k3 tcv
 have hls:=ho.ls
 obtain ⟨pv,cv,rfl,hav,hcv⟩:=ho.arr
 have k04:=KK.trans k4
 replace z0:=kkeep k04 z0
 replace z1:=kkeep k04 z1
 replace z2:=kkeep k04 z2
 replace f0:=(kfro k04 hlt).trans f0
 replace f1:=(kfro k04 hlt).trans f1
 replace f2:=(kfro k04 hlt).trans f2
 obtain ⟨LV,hLV⟩:∃ LV,LV=(dig (A' - B')).length:=⟨_,rfl⟩
 rw [← hLV]
 have HO:Hid (Own w4 w3.heap.size (.slice pv (dig (A' - B')).length cv) (dig (A' - B'))∧LV=(dig (A' - B')).length∧Kp w0 w4∧B+2<w3.heap.size):=⟨ho,hLV,k04,by have:=Below.size KK;omega⟩
 clear ho hls hav hcv k4 k04 hLV KK
 go_wp2
 obtain ⟨ho,hL,k04,hBl⟩:=HO.out
 have kb:Kb (B+2) w4 (((w4.setCell ⟨B+2,0,none⟩ (.bool s)).setCell ⟨B+2,1,none⟩ (.slice pv LV cv)).setCell ⟨B+2,2,none⟩ (.int .i64 low)):=(((Kb.refl (B+2) w4).setCell 0 _).setCell 1 _).setCell 2 _
 have ho2:=ho.kb kb (fun g hg=>by have:=ho.lt g hg;omega)
 have hls:=ho2.ls
 rw [← hL] at hls
 have hkw:Kp w (((w4.setCell ⟨B+2,0,none⟩ (.bool s)).setCell ⟨B+2,1,none⟩ (.slice pv LV cv)).setCell ⟨B+2,2,none⟩ (.int .i64 low)):=kb.kp (HW.out.2.2.1.trans k04) (by rw [HW.out.2.1];omega)
 exact BR (v:=.agg #[.bool s,.slice pv LV cv,.int .i64 low]) (by simp [results,Tryz.results179,go_sem,z0,z1,z2]) rfl ⟨_,rfl,hls,hkw⟩
theorem Arr.kb9 {w w':World} {B:Nat} {p:Option Addr} {xs:List Int} (h:Arr w p xs) (k:Kb B w w') (hne:∀ g o,p=some ⟨g,o,none⟩→g≠B):Arr w' p xs:=by
 rcases h with h | ⟨b,off,e,hc⟩
 ·exact Or.inl h
 ·exact Or.inr ⟨b,off,e,fun j hj=>k.arr (hne b off e) (hc j hj)⟩
theorem plusLt_ (s t:Bool) (a b:Nat) (ea eb low:Int) (pa pb:Option Addr) (ca cb:Nat) (w:World) (ha:Arr w pa (dig a)) (hca:(dig a).length≤ca) (hb:Arr w pb (dig b)) (hcb:(dig b).length≤cb) (la:a<9007199254740992) (lb:b<9007199254740992) (ea1:-1074≤ea) (ea2:ea≤2048) (eb1:-1074≤eb) (eb2:eb≤2048) (hlow:low=min ea eb) (A' B':Nat) (hA:A'=a*2 ^ (ea - low).toNat) (hB':B'=b*2 ^ (eb - low).toNat) (hst:s≠t) (hge:A'<B') :
  Calls Tryz.prog 179 #[.agg #[.bool s,.slice pa (dig a).length ca,.int .i64 ea],.agg #[.bool t,.slice pb (dig b).length cb,.int .i64 eb]] w fun e w'=>∃ v,e=.returned (.agg #[.bool t,v,.int .i64 low])∧Ls w' v (dig (B' - A'))∧Kp w w':=by
 obtain ⟨La,hLa⟩:∃ La,La=(dig a).length:=⟨_,rfl⟩
 obtain ⟨Lb,hLb⟩:∃ Lb,Lb=(dig b).length:=⟨_,rfl⟩
 rw [← hLa,← hLb]
 obtain ⟨B,hB⟩:∃ B,B=w.heap.size:=⟨_,rfl⟩
 obtain ⟨w0,hw0⟩:∃ w0,w0=((w.alloc (.cells #[.bool s,.slice pa La ca,.int .i64 ea] 149)).alloc (.cells #[.bool t,.slice pb Lb cb,.int .i64 eb] 149)).alloc (.cells #[.bool false,.slice none 0 0,.int .i64 0] 149):=⟨_,rfl⟩
 have hk0:Kp w w0:=by rw [hw0];exact (((Kp.refl w).alloc _).alloc _).alloc _
 obtain ⟨x0,x1,x2,y0,y1,y2,z0,z1,z2,f0,f1,f2,i0,i1,i2⟩:w0.cell? ⟨B,0,none⟩=some (.bool s)∧w0.cell? ⟨B,1,none⟩=some (.slice pa La ca)∧w0.cell? ⟨B,2,none⟩=some (.int .i64 ea)∧w0.cell? ⟨B+1,0,none⟩=some (.bool t)∧w0.cell? ⟨B+1,1,none⟩=some (.slice pb Lb cb)∧w0.cell? ⟨B+1,2,none⟩=some (.int .i64 eb)∧w0.cell? ⟨B+2,0,none⟩=some (.bool false)∧w0.cell? ⟨B+2,1,none⟩=some (.slice none 0 0)∧w0.cell? ⟨B+2,2,none⟩=some (.int .i64 0)∧w0.frozen? ⟨B+2,0,none⟩=false∧w0.frozen? ⟨B+2,1,none⟩=false∧w0.frozen? ⟨B+2,2,none⟩=false∧w0.frozen? ⟨B,0,none⟩=false∧w0.frozen? ⟨B,1,none⟩=false∧w0.frozen? ⟨B,2,none⟩=false:=by rw [hw0,hB];simp [go_sem]
 have hlt:=cell_lt z0
 have hlt1:B<w0.heap.size:=cell_lt x0
 -- lengths
 obtain ⟨X4,hX4⟩:∃ X4:Nat,X4=4096:=⟨_,rfl⟩
 have bA:blen A'≤X4:=by
  rw [hA,blen_le_iff]
  have h1:2 ^ 53*2 ^ (ea - low).toNat≤2 ^ X4:=by rw [← Nat.pow_add];exact Nat.pow_le_pow_right (by omega) (by omega)
  have h2:a*2 ^ (ea - low).toNat<2 ^ 53*2 ^ (ea - low).toNat:=Nat.mul_lt_mul_of_pos_right (by rw [show (2:Nat) ^ 53=9007199254740992 from by decide];exact la) (Nat.two_pow_pos _)
  exact Nat.lt_of_lt_of_le h2 h1
 have bB:blen B'≤X4:=by
  rw [hB',blen_le_iff]
  have h1:2 ^ 53*2 ^ (eb - low).toNat≤2 ^ X4:=by rw [← Nat.pow_add];exact Nat.pow_le_pow_right (by omega) (by omega)
  have h2:b*2 ^ (eb - low).toNat<2 ^ 53*2 ^ (eb - low).toNat:=Nat.mul_lt_mul_of_pos_right (by rw [show (2:Nat) ^ 53=9007199254740992 from by decide];exact lb) (Nat.two_pow_pos _)
  exact Nat.lt_of_lt_of_le h2 h1
 have lAB:len32 (A'+B')≤16000:=dlen (A'+B') 16000 (by
  have h1:=(blen_le_iff A' X4).1 bA
  have h2:=(blen_le_iff B' X4).1 bB
  have h3:blen (A'+B')≤X4+1:=by rw [blen_le_iff,Nat.pow_succ];omega
  omega)
 have lA:len32 A'≤16000:=dlen A' 16000 (by omega)
 have lB:len32 B'≤16000:=dlen B' 16000 (by omega)
 have ba:blen a≤53:=by rw [blen_le_iff,show (2:Nat) ^ 53=9007199254740992 from by decide];exact la
 have bb:blen b≤53:=by rw [blen_le_iff,show (2:Nat) ^ 53=9007199254740992 from by decide];exact lb
 have la3:len32 a≤2:=dlen a 2 (by omega)
 have lb3:len32 b≤2:=dlen b 2 (by omega)
 have shl_:∀ (u:Nat) (e:Int) (U:Nat) (pu:Option Addr) (cu Lu:Nat) (w1:World),Arr w1 pu (dig u)→(dig u).length≤cu→Lu=(dig u).length→blen u≤53→len32 u≤2→0≤e→e≤4000→U=u*2 ^ e.toNat→Calls Tryz.prog 210 #[.slice pu Lu cu,.int .i64 e] w1 fun r w'=>∃ p c,r=.returned (.tuple #[.slice p (dig U).length c,.int .i64 0])∧Arr w' p (dig U)∧(dig U).length≤c∧(∀ g o,p=some ⟨g,o,none⟩→w1.heap.size≤g)∧Kp w1 w':=fun u e U pu cu Lu w1 au lu hl b1 b2 e1 e2 hU=>by
  subst hl
  have g:=nshl_ pu cu (dig u) w1 e au (Wd_dig u) (by change len32 u≤_;omega) lu
  rw [val_dig] at g
  have hs:shlN u e=(dig U,0):=by
   unfold shlN
   rw [if_neg (by omega),if_neg (by omega)]
   by_cases c0:u=0
   ·rw [if_pos c0,hU,c0,Nat.zero_mul,dig_zero]
   ·rw [if_neg c0,if_neg (by omega),hU]
  rw [hs] at g
  refine g.mono ?_
  rintro r w' ⟨v,h1,h2,h3⟩
  obtain ⟨p,c,rfl,h4,h5⟩:=h2.arr
  refine ⟨p,c,h1,h4,h5,fun g o hg=>?_,h3⟩
  rcases h2.2 with ⟨h',_⟩ | ⟨g',cap,cur,h6,h7,_⟩
  ·rw [hg] at h';cases h'
  ·rw [hg] at h6;cases h6;exact h7
 have q1:=shl_ a (ea - low) A' pa ca La w0 (ha.grown hk0) hca hLa ba la3 (by omega) (by omega) hA
 have q2:=fun w1 (k:Kp w0 w1)=>shl_ b (eb - low) B' pb cb Lb w1 (hb.grown (hk0.trans k)) hcb hLb bb lb3 (by omega) (by omega) hB'
 have g2:∀ w:World,(Builtin.min_ #[3,3] 3 #[.int .i64 ea,.int .i64 eb]).run Tryz.prog w=.ok (.int .i64 low) w:=fun w=>by
  rw [run_min_int2]
  congr 2
  split <;> omega
 have w1e:wrap64 (ea - low)=ea - low:=w64x _ (by omega) (by omega)
 have w2e:wrap64 (eb - low)=eb - low:=w64x _ (by omega) (by omega)
 have HW:Hid (w0=((w.alloc (.cells #[.bool s,.slice pa La ca,.int .i64 ea] 149)).alloc (.cells #[.bool t,.slice pb Lb cb,.int .i64 eb] 149)).alloc (.cells #[.bool false,.slice none 0 0,.int .i64 0] 149)∧B=w.heap.size∧Kp w w0∧len32 A'≤16000∧len32 B'≤16000∧len32 (A'+B')≤16000):=⟨hw0,hB,hk0,lA,lB,lAB⟩
 have hel:-1074≤low∧low≤2048∧ea - low≤4000∧eb - low≤4000∧0≤ea - low∧0≤eb - low:=by omega
 have HE:Hid (-1074≤low∧low≤2048∧ea - low≤4000∧eb - low≤4000∧0≤ea - low∧0≤eb - low):=hel
 clear hX4 hel shl_ ha hca hb hcb la lb hA hB' hLa hLb hw0 hB hk0 bA bB lA lB lAB ba bb la3 lb3 hlow
 have est:(s == t)=false:=by cases s <;> cases t <;> simp_all
 have est':decide (s=t)=false:=by simp [hst]
 clear hst
 have HG:Hid (A'<B'):=hge
 clear hge
 go_enter Tryz.func179,Tryz.ntmps179
 go_wp2_with fail
 rw [← HW.out.2.1]
 try rw [← HW.out.1]
 refine q1.mono ?_;rintro e w1 ⟨p1,c1,rfl,a1,l1,n1,k1⟩
 obtain ⟨L1,hL1⟩:∃ L1,L1=(dig A').length:=⟨_,rfl⟩
 rw [← hL1]
 have HL1:Hid (L1=(dig A').length):=hL1
 clear hL1
 replace y0:=kkeep k1 y0
 replace y1:=kkeep k1 y1
 replace y2:=kkeep k1 y2
 replace x0:=kkeep k1 x0
 replace x1:=kkeep k1 x1
 replace x2:=kkeep k1 x2
 have q3:=q2 w1 k1
 clear q1 q2
 go_wp2_with fail
 refine q3.mono ?_;rintro e w2 ⟨p2,c2,rfl,a2,l2,n2,k2⟩
 obtain ⟨L2,hL2⟩:∃ L2,L2=(dig B').length:=⟨_,rfl⟩
 rw [← hL2]
 have k02:=k1.trans k2
 replace y0:=kkeep k2 y0
 replace y1:=kkeep k2 y1
 replace y2:=kkeep k2 y2
 replace x0:=kkeep k2 x0
 replace x1:=kkeep k2 x1
 replace x2:=kkeep k2 x2
 have HA2:Hid (Arr w2 p1 (dig A')∧L1=(dig A').length∧L1≤c1∧Arr w2 p2 (dig B')∧L2=(dig B').length∧L2≤c2∧Kp w0 w2∧(∀ g o,p1=some ⟨g,o,none⟩→g≠B)∧(∀ g o,p2=some ⟨g,o,none⟩→g≠B)):=⟨a1.grown k2,HL1.out,by rw [HL1.out];exact l1,a2,hL2,by rw [hL2];exact l2,k02,fun g o h=>by have:=n1 g o h;omega,fun g o h=>by have:=n2 g o h;have:=Below.size k1;omega⟩
 clear q3 a1 l1 a2 l2 k1 k2 k02 HL1 hL2 n1 n2
 have q4:Calls Tryz.prog 212 #[.slice p1 L1 c1,.slice p2 L2 c2] w2 fun e w'=>e=.returned (.int .i64 (cmpN A' B'))∧Kp w2 w':=by
  obtain ⟨h1,h2,h3,h4,h5,h6,-,-,-⟩:=HA2.out
  obtain ⟨-,-,-,b1,b2,b3⟩:=HW.out
  have g:=ncmp_ p1 p2 c1 c2 (dig A') (dig B') w2 h1 h4 (Wd_dig _) (Wd_dig _) (by change len32 _≤_;omega) (by change len32 _≤_;omega) (by rw [← h2];exact h3) (by rw [← h5];exact h6)
  rw [val_dig,val_dig,← h2,← h5] at g
  exact g
 obtain ⟨cv9,hcv9⟩:∃ cv9,cv9=cmpN A' B':=⟨_,rfl⟩
 rw [← hcv9] at q4
 have tcv:cv9<0:=by
  rw [hcv9];unfold cmpN;rw [if_pos HG.out];decide
 clear hcv9
 go_wp2_with fail
 refine q4.mono ?_;rintro e w3 ⟨rfl,k3⟩
 clear q4
 replace x0:=kkeep k3 x0
 replace x1:=kkeep k3 x1
 replace x2:=kkeep k3 x2
 replace y0:=kkeep k3 y0
 replace y1:=kkeep k3 y1
 replace y2:=kkeep k3 y2
 have KK3:Kp w0 w3:=HA2.out.2.2.2.2.2.2.1.trans k3
 replace i0:=(kfro KK3 hlt1).trans i0
 replace i1:=(kfro KK3 hlt1).trans i1
 replace i2:=(kfro KK3 hlt1).trans i2
 go_upto_region 8 with fail
 go_region
 all_goals go_wp2_with fail
 obtain ⟨wc,hwc⟩:∃ wc,wc=((w3.setCell ⟨B,0,none⟩ (.bool t)).setCell ⟨B,1,none⟩ (.slice pb Lb cb)).setCell ⟨B,2,none⟩ (.int .i64 eb):=⟨_,rfl⟩
 obtain ⟨w4,hw4⟩:∃ w4,w4=wc.drew:=⟨_,rfl⟩
 rw [← hwc,← hw4]
 have kb4:Kb B w3 wc:=by rw [hwc];exact (((Kb.refl B w3).setCell 0 _).setCell 1 _).setCell 2 _
 have kd:Kp wc w4:=by rw [hw4];exact (Kp.refl wc).drew
 have hs4:w3.heap.size≤wc.heap.size:=kb4.2.2.2.1
 have hsz:=Below.size KK3
 have hkw4:Kp w w4:=(kb4.kp (HW.out.2.2.1.trans KK3) (by rw [HW.out.2.1];exact Nat.le_refl _)).trans kd
 have x0c:wc.cell? ⟨B,0,none⟩=some (.bool t):=by rw [hwc];simp [go_sem,x0]
 have fz:∀ o,wc.frozen? ⟨B+2,o,none⟩=w3.frozen? ⟨B+2,o,none⟩:=fun o=>by rw [hwc];simp only [World.frozen?_setCell]
 replace x0:=kkeep kd x0c
 replace z0:=kkeep kd (kb4.arr (by omega) (kkeep KK3 z0))
 replace z1:=kkeep kd (kb4.arr (by omega) (kkeep KK3 z1))
 replace z2:=kkeep kd (kb4.arr (by omega) (kkeep KK3 z2))
 replace f0:=(kfro kd (by omega)).trans ((fz 0).trans ((kfro KK3 hlt).trans f0))
 replace f1:=(kfro kd (by omega)).trans ((fz 1).trans ((kfro KK3 hlt).trans f1))
 replace f2:=(kfro kd (by omega)).trans ((fz 2).trans ((kfro KK3 hlt).trans f2))
 have hlt4:B+2<w4.heap.size:=by have:=Below.size kd;omega
 have q5:Calls Tryz.prog 213 #[.slice p2 L2 c2,.slice p1 L1 c1] w4 fun e w'=>∃ v,e=.returned (.tuple #[v,.int .i64 0])∧Own w' w4.heap.size v (dig (B' - A'))∧Kp w4 w':=by
  obtain ⟨h1,h2,h3,h4,h5,h6,-,h8,h9⟩:=HA2.out
  obtain ⟨-,-,-,b1,b2,b3⟩:=HW.out
  have g:=nsub_ p2 p1 c2 c1 (dig B') (dig A') w4 (((h4.grown k3).kb9 kb4 h9).grown kd) (((h1.grown k3).kb9 kb4 h8).grown kd) (Wd_dig _) (Wd_dig _) (by change len32 _<_;omega) (by change len32 _<_;omega) (by rw [← h5];exact h6) (by rw [← h2];exact h3)
  rw [val_dig,val_dig] at g
  have hs:subN B' A'=(dig (B' - A'),0):=by
   unfold subN
   rw [if_neg (by have:=HG.out;omega),if_neg (by omega)]
  rw [hs] at g
  rw [h5,h2]
  exact g
 refine q5.mono ?_;rintro e w5 ⟨v,rfl,ho,k5⟩
 have hls:=ho.ls
 obtain ⟨pv,cv,rfl,hav,hcv⟩:=ho.arr
 replace x0:=kkeep k5 x0
 replace z0:=kkeep k5 z0
 replace z1:=kkeep k5 z1
 replace z2:=kkeep k5 z2
 replace f0:=(kfro k5 hlt4).trans f0
 replace f1:=(kfro k5 hlt4).trans f1
 replace f2:=(kfro k5 hlt4).trans f2
 obtain ⟨LV,hLV⟩:∃ LV,LV=(dig (B' - A')).length:=⟨_,rfl⟩
 rw [← hLV]
 have HO:Hid (Own w5 w4.heap.size (.slice pv (dig (B' - A')).length cv) (dig (B' - A'))∧LV=(dig (B' - A')).length∧Kp w w5∧B+2<w4.heap.size):=⟨ho,hLV,hkw4.trans k5,hlt4⟩
 clear q5 ho hls hav hcv k5 hLV hkw4 kd kb4 hw4 hwc fz x0c x1 x2 y0 y1 y2 HA2 k3 KK3 tcv i0 i1 i2 hs4 hsz hlt4
 go_wp2
 obtain ⟨ho,hL,kw5,hBl⟩:=HO.out
 have kb:Kb (B+2) w5 (((w5.setCell ⟨B+2,0,none⟩ (.bool t)).setCell ⟨B+2,1,none⟩ (.slice pv LV cv)).setCell ⟨B+2,2,none⟩ (.int .i64 low)):=(((Kb.refl (B+2) w5).setCell 0 _).setCell 1 _).setCell 2 _
 have ho2:=ho.kb kb (fun g hg=>by have:=ho.lt g hg;omega)
 have hls:=ho2.ls
 rw [← hL] at hls
 have hkw:Kp w (((w5.setCell ⟨B+2,0,none⟩ (.bool t)).setCell ⟨B+2,1,none⟩ (.slice pv LV cv)).setCell ⟨B+2,2,none⟩ (.int .i64 low)):=kb.kp kw5 (by rw [HW.out.2.1];omega)
 exact BR (v:=.agg #[.bool t,.slice pv LV cv,.int .i64 low]) (by simp [results,Tryz.results179,go_sem,z0,z1,z2]) rfl ⟨_,rfl,hls,hkw⟩
end Go.Proofs.YtmpjcknaelgnoaaGreatDoor
