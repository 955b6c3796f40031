import Derived.Test.YtmpjcknaelgnoaaGreatDoorKH4Q
import Derived.Test.YtmpjcknaelgnoaaGreatDoorKMR18
set_option maxHeartbeats 3000000
set_option maxRecDepth 20000
namespace Go.Proofs.YtmpjcknaelgnoaaGreatDoor
open Go.RowKit
theorem rtimes_ (p q:Option Addr) (c d:Nat) (xs ys:List Int) (w:World) (hx:Arr w p xs) (hy:Arr w q ys) (hwx:Wd xs) (hwy:Wd ys) (lx:xs.length≤16777216) (ly:ys.length≤16777216) :
  Calls Tryz.prog 135 #[.slice p xs.length c,.slice q ys.length d] w fun e w'=>∃ v,e=.returned v∧Own w' w.heap.size v (dig (val xs*val ys))∧Kp w w':=by
 have h1:=words_ p c xs w hx (by omega)
 have h2:=words_ q d ys w hy (by omega)
 have lS:=tl_le xs
 have lT:=tl_le ys
 have hvx:=val_tl xs
 have hvy:=val_tl ys
 obtain ⟨N,hN⟩:∃ N,N=xs.length:=⟨_,rfl⟩
 obtain ⟨M,hM⟩:∃ M,M=ys.length:=⟨_,rfl⟩
 obtain ⟨S,hS⟩:∃ S,S=tl xs:=⟨_,rfl⟩
 obtain ⟨T,hT⟩:∃ T,T=tl ys:=⟨_,rfl⟩
 rw [← hS] at h1 lS hvx
 rw [← hT] at h2 lT hvy
 have hmk:∀ w:World,(Instr.makeSlice 55 (.int .i64 ((S:Int)+(T:Int))) (.int .i64 ((S:Int)+(T:Int)))).run Tryz.prog w=.ok (.slice (some ⟨w.heap.size,0,none⟩) (S+T) (S+T)) (w.alloc (.cells (madeCells #[.int .u32 0] (S+T)) 120)):=by
  have:=mk32 (S+T) (by omega)
  simpa using this
 have hk1:Kp w (w.alloc (.cells (madeCells #[.int .u32 0] (S+T)) 120)):=(Kp.refl w).alloc _
 have hrz:Rw (w.alloc (.cells (madeCells #[.int .u32 0] (S+T)) 120)) w.heap.size (S+T) (List.replicate (S+T) 0):=World.rowIs.congr (World.rowIs_made w (.int .u32 0) (S+T) 120) (fun j _=>by rw [rep0_getD])
 obtain ⟨zs0,hz0⟩:∃ zs0,zs0=List.replicate (S+T) (0:Int):=⟨_,rfl⟩
 have hzl0:zs0.length=S+T:=by rw [hz0];simp
 have hwz0:Wd zs0:=by rw [hz0];exact Wd_rep0 _
 have hzz0:∀ j,zs0.getD j 0=0:=fun j=>by rw [hz0];exact rep0_getD _ _
 have hvz0:=val_zeros zs0 hzz0
 rw [← hz0] at hrz
 have HX:Hid (Arr w p xs∧Wd xs∧val (xs.take S)=val xs):=⟨hx,hwx,hvx⟩
 have HY:Hid (Arr w q ys∧Wd ys∧val (ys.take T)=val ys):=⟨hy,hwy,hvy⟩
 have HN:Hid (N=xs.length∧M=ys.length):=⟨hN,hM⟩
 obtain ⟨g,hg⟩:∃ g,g=w.heap.size:=⟨_,rfl⟩
 rw [← hg] at hrz
 have HG:Hid (g=w.heap.size):=hg
 rw [← hN] at lx h1 lS ⊢
 rw [← hM] at ly h2 lT ⊢
 clear hx hy hwx hwy hN hM hz0 hS hT hvx hvy
 go_enter Tryz.func135,Tryz.ntmps135
 go_wp2_with fail
 refine SM h1 ?_
 go_wp2_with fail
 refine SM h2 ?_
 go_wp2
 rw [← hg]
 clear hmk hg h1 h2
 go_loopw [8] (fun i wr=>∃ (k:Nat) (zs:List Int),i=.int .i64 k∧k≤T∧Rw wr g (S+T) zs∧zs.length=S+T∧Wd zs∧val zs=val (ys.take k)*val xs∧(∀ j,k+S≤j→zs.getD j 0=0)∧Kp w wr) (fun i _=>T - (intOf i).toNat)
 case atStart=>exact ⟨0,zs0,rfl,Nat.zero_le _,hrz,hzl0,hwz0,by rw [hvz0];simp [val],fun j _=>hzz0 j,hk1⟩
 case round =>
  clear hrz hzl0 hwz0 hzz0 hvz0 hk1
  obtain ⟨k,zs,rfl,hk,hrow,hzl,hwz,hv,hzz,hkp⟩:=hrel
  obtain ⟨hN,hM⟩:=HN.out
  by_cases ck:k<T
  ·obtain ⟨b,off,rfl,hc⟩:=HY.out.1.at (k:=k) (by omega)
   have e0:=hc k (by omega)
   have e1:=kkeep hkp e0
   have wy:=HY.out.2.1 k
   have hrp:=row_prod ys k (val xs)
   obtain ⟨Y,hY⟩:∃ Y:Nat,(Y:Int)=ys.getD k 0:=⟨(ys.getD k 0).toNat,by omega⟩
   rw [← hY] at e1 wy hrp
   rw [Int.toNat_natCast] at hrp
   have i0:(0:Int)≤(k:Int):=by omega
   have i1:(k:Int)<(T:Int):=by omega
   have i1':(k:Int)<(M:Int):=by omega
   by_cases cY:Y=0
   ·subst cY
    have hv2:val zs=val (ys.take (k+1))*val xs:=by rw [← hrp,hv];simp
    have t1:(((0:Nat):Int) == 0)=true:=by simp
    clear hc e0 HX HY HN HG hN hM hY wy hrp hv
    go_wp2
    exact ⟨⟨k+1,zs,by go_num,by omega,hrow,hzl,hwz,hv2,fun j hj=>hzz j (by omega),hkp⟩,by simp [intOf];omega⟩
   ·have t1:((Y:Int) == 0)=false:=by simp;omega
    have fY:IntKind.u64.wrap (Y:Int)=(Y:Int):=by rw [IntKind.wrap_u64];omega
    have hY32:Y<4294967296:=by omega
    have HV:Hid (val zs+val xs*Y*4294967296 ^ k=val (ys.take (k+1))*val xs∧(∀ j,k+S≤j→zs.getD j 0=0)):=⟨by rw [hv];exact hrp,hzz⟩
    clear hc e0 HY hN hM hY wy hrp hv hzz
    go_wp2
    clear t1 fY
    go_loopw [10,11] (fun cc ii wq=>∃ (m C:Nat) (us:List Int),cc=.int .u64 (C:Int)∧ii=.int .i64 m∧m≤S∧Rw wq g (S+T) us∧us.length=S+T∧Wd us∧C<4294967296∧val us+C*4294967296 ^ (k+m)=val zs+val (xs.take m)*Y*4294967296 ^ k∧(∀ j,k+m≤j→us.getD j 0=zs.getD j 0)∧Kp w wq) (fun _ i _=>S - (intOf i).toNat)
    case atStart=>exact ⟨0,0,zs,rfl,rfl,Nat.zero_le _,hrow,hzl,hwz,by omega,by simp [val],fun j _=>rfl,hkp⟩
    case round =>
     clear hrow hwz hkp e1
     obtain ⟨m,C,us,rfl,rfl,hm,hrow,hul,hwu,hC,hv,hsam,hkp⟩:=hrel
     obtain ⟨hN,hM⟩:=HN.out
     by_cases cm:m<S
     ·obtain ⟨b',off',rfl,hc'⟩:=HX.out.1.at (k:=m) (by omega)
      have e2:=kkeep hkp (hc' m (by omega))
      have e1:=World.rowIs.cell hrow (i:=m+k) (by omega)
      have wx:=HX.out.2.1 m
      have wz:=hwu (m+k)
      obtain ⟨X,hX⟩:∃ X:Nat,(X:Int)=xs.getD m 0:=⟨(xs.getD m 0).toNat,by omega⟩
      obtain ⟨Z0,hZ0⟩:∃ Z0:Nat,(Z0:Int)=us.getD (m+k) 0:=⟨(us.getD (m+k) 0).toNat,by omega⟩
      rw [← hX] at e2
      rw [← hZ0] at e1
      have hmw:=mul_word X Y C Z0 (by omega) hY32 hC (by omega)
      obtain ⟨P,hP⟩:∃ P,P=X*Y:=⟨_,rfl⟩
      rw [← hP] at hmw
      obtain ⟨Q,hQ⟩:∃ Q:Nat,Q=(Z0:Int).toNat+((P:Nat):Int).toNat+C:=⟨_,rfl⟩
      rw [Nat.add_comm m k] at hZ0
      have hst:=sum_step us (k+m) C Q _ (Z0:Int) (P:Int) (by omega) hZ0.symm hQ hv
      simp only [Int.toNat_natCast] at hQ hst
      have hg2:=mul_grow xs Y k m
      rw [← hX,Int.toNat_natCast,← hP] at hg2
      rw [Nat.add_assoc (val zs),← hg2,Nat.add_assoc k m 1] at hst
      have f1:IntKind.u64.wrap (X:Int)=(X:Int):=by rw [IntKind.wrap_u64];omega
      have f2:IntKind.u64.wrap ((X:Int)*(Y:Int))=(P:Int):=by
       have:(X:Int)*(Y:Int)=(P:Int):=by rw [hP];exact (Int.natCast_mul X Y).symm
       rw [this,IntKind.wrap_u64];omega
      have f3:IntKind.u64.wrap (Z0:Int)=(Z0:Int):=by rw [IntKind.wrap_u64];omega
      have f4:IntKind.u64.wrap ((C:Int)+(Z0:Int))=(C:Int)+(Z0:Int):=by rw [IntKind.wrap_u64];omega
      have f5:IntKind.u64.wrap ((C:Int)+(Z0:Int)+(P:Int))=(Q:Int):=by rw [IntKind.wrap_u64];omega
      have f8:=and32 Q (by omega)
      obtain ⟨Z,hZ⟩:∃ Z:Nat,Z=Q % 4294967296:=⟨_,rfl⟩
      obtain ⟨C',hC2⟩:∃ C':Nat,C'=Q / 4294967296:=⟨_,rfl⟩
      rw [← hZ] at f8
      have f6:IntKind.u32.wrap (Z:Int)=(Z:Int):=by rw [IntKind.wrap_u32];omega
      have f7:(Q:Int) / 4294967296=(C':Int):=by omega
      rw [← hZ,← hC2] at hst
      have hC':C'<4294967296:=by omega
      have hw2:Wd (us.set (m+k) (Z:Int)):=hwu.set (m+k) Z (by omega)
      have hl2:(us.set (m+k) (Z:Int)).length=S+T:=by rw [List.length_set];exact hul
      have hsam2:∀ j,k+(m+1)≤j→(us.set (m+k) (Z:Int)).getD j 0=zs.getD j 0:=fun j h1=>by
       rw [← hsam j (by omega)];simp [List.getD,show ¬ m+k=j from by omega]
      have ekm:k+m=m+k:=Nat.add_comm k m
      rw [ekm] at hst
      clear ekm
      have hik:m+k<us.length:=by omega
      have hik2:m+k<S+T:=by omega
      have j0:(0:Int)≤(m:Int):=by omega
      have j1:(m:Int)<(S:Int):=by omega
      have j2:(m:Int)<(N:Int):=by omega
      have j3:(0:Int)≤(m:Int)+(k:Int):=by omega
      have j4:(m:Int)+(k:Int)<(S:Int)+(T:Int):=by omega
      have hgw:w.heap.size≤g:=by rw [HG.out];exact Nat.le_refl _
      clear hc' HX HN HG hN hM hX hZ0 hZ hC2 hQ hv hP hg2 wx wz hwu hC hsam hul hmw HV hzl
      go_wp2
      refine wp_region_kp (by kernel_rfl) (by kernel_rfl) (fun ι _ G hG hall=>?_)
      have c0:∀ n,(G n).cell? ⟨g,m+k,none⟩=some (.int .u32 (Z0:Int)):=fun n=>kkeep (hG n) e1
      have c1:∀ n,(G n).cell? ⟨b',off'+m,none⟩=some (.int .u32 (X:Int)):=fun n=>kkeep (hG n) e2
      repeat (go_big_quiet_step (fail))
      refine wpQuiet_nil ?_
      rintro _ ⟨nq,rfl⟩
      have gq:=hG nq
      replace hrow:=hrow.grown gq
      have e3:=World.rowIs.cell hrow (i:=m+k) hik2
      have e4:=World.rowIs.frozen hrow (m+k)
      have hR:=hrow.set (m+k) (Z:Int) hik
      have hK:=(hkp.trans gq).setCell (p:=⟨g,m+k,none⟩) hgw (.int .u32 (Z:Int))
      clear c0 c1 hall hG gq e1 e2 hrow hkp
      go_wp2
      exact ⟨⟨m+1,C',us.set (m+k) (Z:Int),by go_num,by go_num,by omega,hR,hl2,hw2,hC',hst,hsam2,hK⟩,by simp [intOf];omega⟩
     ·have hmS:m=S:=by omega
      subst hmS
      have hvx:=HX.out.2.2
      rw [hvx] at hv
      obtain ⟨hV1,hV2⟩:=HV.out
      have hu0:us.getD (k+m) 0=0:=by rw [hsam _ (Nat.le_refl _)];exact hV2 _ (Nat.le_refl _)
      have hvs:=val_set us (k+m) (C:Int) (by omega)
      rw [hu0,Int.toNat_natCast,hv,hV1] at hvs
      have hv3:val (us.set (k+m) (C:Int))=val (ys.take (k+1))*val xs:=by simpa using hvs
      have hgw:w.heap.size≤g:=by rw [HG.out];exact Nat.le_refl _
      have hR:=hrow.set (k+m) (C:Int) (by omega)
      have hK:Kp w (wr.setCell ⟨g,k+m,none⟩ (.int .u32 (C:Int))):=hkp.setCell hgw _
      have hw3:Wd (us.set (k+m) (C:Int)):=hwu.set _ _ (by omega)
      have hl3:(us.set (k+m) (C:Int)).length=m+T:=by rw [List.length_set];exact hul
      have hz3:∀ j,k+1+m≤j→(us.set (k+m) (C:Int)).getD j 0=0:=fun j hj=>by
       have e1:(us.set (k+m) (C:Int)).getD j 0=us.getD j 0:=by simp [List.getD,show ¬ k+m=j from by omega]
       rw [e1,hsam j (by omega)]
       exact hV2 j (by omega)
      have e3:=World.rowIs.cell hrow (i:=k+m) (by omega)
      have e4:=World.rowIs.frozen hrow (k+m)
      have f6:IntKind.u32.wrap (C:Int)=(C:Int):=by rw [IntKind.wrap_u32];omega
      have i2:¬ ((m:Int)<(m:Int)):=by omega
      have j3:(0:Int)≤(k:Int)+(m:Int):=by omega
      have j4:(k:Int)+(m:Int)<(m:Int)+(T:Int):=by omega
      clear HX HN HG hN hM hv hvs hsam hkp hrow HV hV1 hV2 hvx hwu hul hu0 hC cm hm hzl
      go_wp2
      exact ⟨⟨k+1,us.set (k+m) (C:Int),by go_num,by omega,hR,hl3,hw3,hv3,hz3,hK⟩,by simp [intOf];omega⟩
  ·have hkN:k=T:=by omega
   subst hkN
   have hvy:=HY.out.2.2
   rw [hvy] at hv
   have hA:=hrow.arr (S+k) (Nat.le_refl _) (by omega)
   rw [List.take_of_length_le (by omega)] at hA
   have hno:=rnorm_ (some ⟨g,0,none⟩) (S+k) zs wr hA (by omega)
   rw [nz_dig zs hwz,hv,hzl,Nat.mul_comm] at hno
   have hsz:=hkp.size
   have i2:¬ ((k:Int)<(k:Int)):=by omega
   clear hA hrow hzl hwz hv HX HY HN HG hN hM hzz hvy hk ck
   go_wp2_with fail
   refine hno.mono ?_
   rintro e w2 ⟨v2,rfl,hO2,hk2⟩
   clear hno
   go_wp2
   exact BR (v:=v2) (by simp [results,Tryz.results135,go_sem] <;> simp only [*]) rfl ⟨v2,rfl,hO2.mono hsz,hkp.trans hk2⟩
theorem rminus_ (p q:Option Addr) (c d:Nat) (xs ys:List Int) (w:World) (hx:Arr w p xs) (hy:Arr w q ys) (hwx:Wd xs) (hwy:Wd ys) (lx:xs.length<1099511627776) (hl:ys.length≤xs.length) (hle:val ys≤val xs) :
  Calls Tryz.prog 190 #[.slice p xs.length c,.slice q ys.length d] w fun e w'=>∃ v,e=.returned v∧Own w' w.heap.size v (dig (val xs - val ys))∧Kp w w':=by
 obtain ⟨N,hN⟩:∃ N,N=xs.length:=⟨_,rfl⟩
 obtain ⟨M,hM⟩:∃ M,M=ys.length:=⟨_,rfl⟩
 rw [← hN] at lx hl ⊢
 rw [← hM] at hl ⊢
 have HX:Hid (Arr w p xs):=hx
 have HY:Hid (Arr w q ys):=hy
 have HW:Hid (Wd xs∧Wd ys∧val ys≤val xs):=⟨hwx,hwy,hle⟩
 have HN:Hid (N=xs.length∧M=ys.length∧N<1099511627776∧M≤N):=⟨hN,hM,lx,hl⟩
 obtain ⟨i0,hi0,hi1,hi2,hi3⟩:=inf32p
 clear hN hM hx hy hwx hwy lx hl hle
 go_enter Tryz.func190,Tryz.ntmps190
 go_wp2
 go_loopw [5,6,7] (fun a cc i wr=>∃ (v:Value) (k C:Nat) (L:List Int),v=a∧cc=.int .u64 C∧i=.int .i64 k∧Own wr w.heap.size v L∧Kp w wr∧L.length=k∧Wd L∧C≤1∧val L+val (ys.take k)=val (xs.take k)+C*4294967296 ^ k∧k≤N) (fun _ _ i _=>N - (intOf i).toNat)
 case atStart=>exact ⟨_,0,0,[],rfl,rfl,rfl,Own.nil _ _,Kp.refl _,rfl,Wd.nil,by omega,by simp [val],by omega⟩
 case round =>
  obtain ⟨v,k,C,L,rfl,rfl,rfl,hown,hkp,hL,hw,hC,hv,hk⟩:=hrel
  obtain ⟨hN,hM,lx,hl⟩:=HN.out
  by_cases ca:k<N
  ·by_cases cb:k<M
   ·skip
    obtain ⟨b,off,rfl,hc⟩:=HX.out.at (k:=k) (by omega)
    have e1:=kkeep hkp (hc k (by omega))
    obtain ⟨b',off',rfl,hc'⟩:=HY.out.at (k:=k) (by omega)
    have e2:=kkeep hkp (hc' k (by omega))
    have wx:=HW.out.1 k
    have wy:=HW.out.2.1 k
    obtain ⟨X,hX⟩:∃ X,X=xs.getD k 0:=⟨_,rfl⟩
    obtain ⟨Y,hY⟩:∃ Y,Y=ys.getD k 0:=⟨_,rfl⟩
    have hst:=fun (C' Z:Nat) h=>minus_step L xs ys k C C' Z hL h hv
    rw [← hX,← hY] at hst
    rw [← hX] at wx e1
    rw [← hY] at wy e2
    have f1:IntKind.u64.wrap X=X:=by rw [IntKind.wrap_u64];omega
    obtain ⟨T,hT⟩:∃ T:Int,T=Y+(C:Int):=⟨_,rfl⟩
    have f2:IntKind.u64.wrap Y=Y:=by rw [IntKind.wrap_u64];omega
    have f3:IntKind.u64.wrap ((C:Int)+Y)=T:=by rw [IntKind.wrap_u64];omega
    by_cases ct:X<T
    ·skip
     obtain ⟨Z,hZ⟩:∃ Z:Nat,Z=(X+4294967296 - T).toNat:=⟨_,rfl⟩
     have f4:IntKind.u64.wrap (X+4294967296)=X+4294967296:=by rw [IntKind.wrap_u64];omega
     have f5:IntKind.u64.wrap (X+4294967296 - T)=(Z:Int):=by rw [IntKind.wrap_u64];omega
     have hs2:=hst 1 Z (by omega)
     have f6:IntKind.u32.wrap (Z:Int)=(Z:Int):=by rw [IntKind.wrap_u32];omega
     have hWL:Wd (L ++ [(Z:Int)]):=hw.append (Wd.one (by omega))
     have hob:=own_block hown
     have hown':wr.ownsRow w.heap.size 120 1 v k (L.map (Value.int .u32)):=by rw [← hL];exact hown
     have hsz:=hkp.size
     have hkb:k<1099511627776:=by omega
     have j0:(0:Int)≤(k:Int):=by omega
     have j1:(k:Int)<(N:Int):=by omega
     have j2:((k:Int)<(M:Int)):=by omega
     clear ca cb
     clear hc hc' HX HY HW HN hN hM hX hY hv hZ hT hown wx wy hw hC hst
     go_wp2_with (first | (at_builtin;refine wpList_append_own _ rfl _ _ 55 rfl w.heap.size 120 i0 (.int .u32 0) 1 4 Tryz.underlying55 hi0 hi1 hi2 hi3 rfl (by decide) _ _ _ rfl (hown'.alloc _) ⟨wr.heap.size,0,none⟩ 1 1 [.int .u32 (Z:Int)] rfl rfl ?c1f0 ?c2f0 ?c3f0 ?c4f0 ?c5f0 ?_))
     try case c1f0 =>
      intro j' u hj'
      match j',hj' with
      | 0,hj'=>simp at hj';subst hj';simp [Addr.add]
     case c2f0=>first | rfl | (intro u hu;simp at hu;subst hu;rfl)
     case c3f0=>unfold maxLen;omega
     case c4f0=>omega
     case c5f0=>first | omega | (simp;omega)
     intro v' w1 hown2 hgrow _
     have hO:Own w1 w.heap.size v' (L ++ [(Z:Int)]):=by refine Own.push ?_;rw [hL];exact hown2
     have hK2:Kp w w1:=(hkp.alloc _).grown hgrow hob
     clear hown2 hgrow hown' hkp hob hsz
     go_wp2
     exact ⟨⟨_,k+1,1,_,rfl,rfl,by go_num,hO,hK2,by simp [hL],hWL,by omega,hs2,by omega⟩,by simp [intOf];omega⟩
    ·skip
     obtain ⟨Z,hZ⟩:∃ Z:Nat,Z=(X - T).toNat:=⟨_,rfl⟩
     have f5:IntKind.u64.wrap (X - T)=(Z:Int):=by rw [IntKind.wrap_u64];omega
     have hs2:=hst 0 Z (by omega)
     have f6:IntKind.u32.wrap (Z:Int)=(Z:Int):=by rw [IntKind.wrap_u32];omega
     have hWL:Wd (L ++ [(Z:Int)]):=hw.append (Wd.one (by omega))
     have hob:=own_block hown
     have hown':wr.ownsRow w.heap.size 120 1 v k (L.map (Value.int .u32)):=by rw [← hL];exact hown
     have hsz:=hkp.size
     have hkb:k<1099511627776:=by omega
     have j0:(0:Int)≤(k:Int):=by omega
     have j1:(k:Int)<(N:Int):=by omega
     have j2:((k:Int)<(M:Int)):=by omega
     clear ca cb
     clear hc hc' HX HY HW HN hN hM hX hY hv hZ hT hown wx wy hw hC hst
     go_wp2_with (first | (at_builtin;refine wpList_append_own _ rfl _ _ 55 rfl w.heap.size 120 i0 (.int .u32 0) 1 4 Tryz.underlying55 hi0 hi1 hi2 hi3 rfl (by decide) _ _ _ rfl (hown'.alloc _) ⟨wr.heap.size,0,none⟩ 1 1 [.int .u32 (Z:Int)] rfl rfl ?c1f1 ?c2f1 ?c3f1 ?c4f1 ?c5f1 ?_))
     try case c1f1 =>
      intro j' u hj'
      match j',hj' with
      | 0,hj'=>simp at hj';subst hj';simp [Addr.add]
     case c2f1=>first | rfl | (intro u hu;simp at hu;subst hu;rfl)
     case c3f1=>unfold maxLen;omega
     case c4f1=>omega
     case c5f1=>first | omega | (simp;omega)
     intro v' w1 hown2 hgrow _
     have hO:Own w1 w.heap.size v' (L ++ [(Z:Int)]):=by refine Own.push ?_;rw [hL];exact hown2
     have hK2:Kp w w1:=(hkp.alloc _).grown hgrow hob
     clear hown2 hgrow hown' hkp hob hsz
     go_wp2
     exact ⟨⟨_,k+1,0,_,rfl,rfl,by go_num,hO,hK2,by simp [hL],hWL,by omega,hs2,by omega⟩,by simp [intOf];omega⟩
   ·skip
    obtain ⟨b,off,rfl,hc⟩:=HX.out.at (k:=k) (by omega)
    have e1:=kkeep hkp (hc k (by omega))
    have wx:=HW.out.1 k
    have wy:=HW.out.2.1 k
    have hy0:ys.getD k 0=0:=getD_out ys k (by omega)
    obtain ⟨X,hX⟩:∃ X,X=xs.getD k 0:=⟨_,rfl⟩
    obtain ⟨Y,hY⟩:∃ Y,Y=ys.getD k 0:=⟨_,rfl⟩
    have hst:=fun (C' Z:Nat) h=>minus_step L xs ys k C C' Z hL h hv
    rw [← hX,← hY] at hst
    rw [← hX] at wx e1
    rw [← hY] at wy hy0
    have f1:IntKind.u64.wrap X=X:=by rw [IntKind.wrap_u64];omega
    by_cases ct:X<(C:Int)
    ·skip
     obtain ⟨Z,hZ⟩:∃ Z:Nat,Z=(X+4294967296 - (C:Int)).toNat:=⟨_,rfl⟩
     have f4:IntKind.u64.wrap (X+4294967296)=X+4294967296:=by rw [IntKind.wrap_u64];omega
     have f5:IntKind.u64.wrap (X+4294967296 - (C:Int))=(Z:Int):=by rw [IntKind.wrap_u64];omega
     have hs2:=hst 1 Z (by omega)
     have f6:IntKind.u32.wrap (Z:Int)=(Z:Int):=by rw [IntKind.wrap_u32];omega
     have hWL:Wd (L ++ [(Z:Int)]):=hw.append (Wd.one (by omega))
     have hob:=own_block hown
     have hown':wr.ownsRow w.heap.size 120 1 v k (L.map (Value.int .u32)):=by rw [← hL];exact hown
     have hsz:=hkp.size
     have hkb:k<1099511627776:=by omega
     have j0:(0:Int)≤(k:Int):=by omega
     have j1:(k:Int)<(N:Int):=by omega
     have j2:¬ ((k:Int)<(M:Int)):=by omega
     clear ca cb
     clear hc hy0 HX HY HW HN hN hM hX hY hv hZ hown wx wy hw hC hst
     go_wp2_with (first | (at_builtin;refine wpList_append_own _ rfl _ _ 55 rfl w.heap.size 120 i0 (.int .u32 0) 1 4 Tryz.underlying55 hi0 hi1 hi2 hi3 rfl (by decide) _ _ _ rfl (hown'.alloc _) ⟨wr.heap.size,0,none⟩ 1 1 [.int .u32 (Z:Int)] rfl rfl ?c1g0 ?c2g0 ?c3g0 ?c4g0 ?c5g0 ?_))
     try case c1g0 =>
      intro j' u hj'
      match j',hj' with
      | 0,hj'=>simp at hj';subst hj';simp [Addr.add]
     case c2g0=>first | rfl | (intro u hu;simp at hu;subst hu;rfl)
     case c3g0=>unfold maxLen;omega
     case c4g0=>omega
     case c5g0=>first | omega | (simp;omega)
     intro v' w1 hown2 hgrow _
     have hO:Own w1 w.heap.size v' (L ++ [(Z:Int)]):=by refine Own.push ?_;rw [hL];exact hown2
     have hK2:Kp w w1:=(hkp.alloc _).grown hgrow hob
     clear hown2 hgrow hown' hkp hob hsz
     go_wp2
     exact ⟨⟨_,k+1,1,_,rfl,rfl,by go_num,hO,hK2,by simp [hL],hWL,by omega,hs2,by omega⟩,by simp [intOf];omega⟩
    ·skip
     obtain ⟨Z,hZ⟩:∃ Z:Nat,Z=(X - (C:Int)).toNat:=⟨_,rfl⟩
     have f5:IntKind.u64.wrap (X - (C:Int))=(Z:Int):=by rw [IntKind.wrap_u64];omega
     have hs2:=hst 0 Z (by omega)
     have f6:IntKind.u32.wrap (Z:Int)=(Z:Int):=by rw [IntKind.wrap_u32];omega
     have hWL:Wd (L ++ [(Z:Int)]):=hw.append (Wd.one (by omega))
     have hob:=own_block hown
     have hown':wr.ownsRow w.heap.size 120 1 v k (L.map (Value.int .u32)):=by rw [← hL];exact hown
     have hsz:=hkp.size
     have hkb:k<1099511627776:=by omega
     have j0:(0:Int)≤(k:Int):=by omega
     have j1:(k:Int)<(N:Int):=by omega
     have j2:¬ ((k:Int)<(M:Int)):=by omega
     clear ca cb
     clear hc hy0 HX HY HW HN hN hM hX hY hv hZ hown wx wy hw hC hst
     go_wp2_with (first | (at_builtin;refine wpList_append_own _ rfl _ _ 55 rfl w.heap.size 120 i0 (.int .u32 0) 1 4 Tryz.underlying55 hi0 hi1 hi2 hi3 rfl (by decide) _ _ _ rfl (hown'.alloc _) ⟨wr.heap.size,0,none⟩ 1 1 [.int .u32 (Z:Int)] rfl rfl ?c1g1 ?c2g1 ?c3g1 ?c4g1 ?c5g1 ?_))
     try case c1g1 =>
      intro j' u hj'
      match j',hj' with
      | 0,hj'=>simp at hj';subst hj';simp [Addr.add]
     case c2g1=>first | rfl | (intro u hu;simp at hu;subst hu;rfl)
     case c3g1=>unfold maxLen;omega
     case c4g1=>omega
     case c5g1=>first | omega | (simp;omega)
     intro v' w1 hown2 hgrow _
     have hO:Own w1 w.heap.size v' (L ++ [(Z:Int)]):=by refine Own.push ?_;rw [hL];exact hown2
     have hK2:Kp w w1:=(hkp.alloc _).grown hgrow hob
     clear hown2 hgrow hown' hkp hob hsz
     go_wp2
     exact ⟨⟨_,k+1,0,_,rfl,rfl,by go_num,hO,hK2,by simp [hL],hWL,by omega,hs2,by omega⟩,by simp [intOf];omega⟩
  ·have hkN:k=N:=by omega
   have hv2:val L=val xs - val ys:=by
    rw [List.take_of_length_le (by omega),List.take_of_length_le (by omega)] at hv
    have:=minus_end L xs ys C k hL hw HW.out.2.2 hv hC
    subst this
    omega
   have hLl:L.length≤1099511627776:=by omega
   obtain ⟨p',c',rfl,hA,_⟩:=hown.arr
   have hno:=rnorm_ p' c' L wr hA hLl
   rw [nz_dig L hw,hv2] at hno
   obtain ⟨D,hD⟩:∃ D,D=L.length:=⟨_,rfl⟩
   rw [← hD] at hno ⊢
   have i2:¬ ((k:Int)<(N:Int)):=by omega
   clear HX HY HW HN hN hM hv hown hw hC hA hv2 hL hLl hD hkN ca lx hl
   go_wp2_with fail
   refine hno.mono ?_
   rintro e w2 ⟨v2,rfl,hO2,hk2⟩
   clear hno
   go_wp2
   exact BR (v:=v2) (by simp [results,Tryz.results190,go_sem] <;> simp only [*]) rfl ⟨v2,rfl,hO2.mono hkp.size,hkp.trans hk2⟩
theorem timesR (v1 v2:Value) (a b:Nat) (w:World) (h1:Ls w v1 (dig a)) (h2:Ls w v2 (dig b)) (l1:len32 a≤16384) (l2:len32 b≤16384) :
  Calls Tryz.prog 135 #[v1,v2] w fun e w'=>∃ p c,e=.returned (.slice p (dig (a*b)).length c)∧Arr w' p (dig (a*b))∧(dig (a*b)).length≤c∧Kp w w':=by
 obtain ⟨p,c,rfl,hA,hc⟩:=h1
 obtain ⟨q,d,rfl,hB,hd⟩:=h2
 have h:=rtimes_ p q c d (dig a) (dig b) w hA hB (Wd_dig a) (Wd_dig b) (by change len32 a≤_;omega) (by change len32 b≤_;omega)
 rw [val_dig,val_dig] at h
 refine h.mono ?_
 rintro e w' ⟨v,h1,h2,h3⟩
 obtain ⟨p,c,rfl,h4,h5⟩:=h2.arr
 exact ⟨p,c,h1,h4,h5,h3⟩
theorem plusR (v1 v2:Value) (a b:Nat) (w:World) (h1:Ls w v1 (dig a)) (h2:Ls w v2 (dig b)) (l1:len32 a≤32768) (l2:len32 b≤32768) :
  Calls Tryz.prog 168 #[v1,v2] w fun e w'=>∃ p c,e=.returned (.slice p (dig (a+b)).length c)∧Arr w' p (dig (a+b))∧(dig (a+b)).length≤c∧Kp w w':=by
 obtain ⟨p,c,rfl,hA,hc⟩:=h1
 obtain ⟨q,d,rfl,hB,hd⟩:=h2
 have h:=rplus_ p q c d (dig a) (dig b) w hA hB (Wd_dig a) (Wd_dig b) (by change len32 a<_;omega) (by change len32 b<_;omega)
 refine h.mono ?_
 rintro e w' ⟨v,L,h1,h2,h3,h4,_,h5⟩
 rw [val_dig,val_dig] at h4
 rw [nz_dig L h3,h4] at h2
 obtain ⟨p,c,rfl,h6,h7⟩:=h2.arr
 exact ⟨p,c,h1,h6,h7,h5⟩
theorem minusR (v1 v2:Value) (a b:Nat) (w:World) (h1:Ls w v1 (dig a)) (h2:Ls w v2 (dig b)) (l1:len32 a≤32768) (hle:b≤a) :
  Calls Tryz.prog 190 #[v1,v2] w fun e w'=>∃ p c,e=.returned (.slice p (dig (a - b)).length c)∧Arr w' p (dig (a - b))∧(dig (a - b)).length≤c∧Kp w w':=by
 obtain ⟨p,c,rfl,hA,hc⟩:=h1
 obtain ⟨q,d,rfl,hB,hd⟩:=h2
 have h:=rminus_ p q c d (dig a) (dig b) w hA hB (Wd_dig a) (Wd_dig b) (by change len32 a<_;omega) (by exact len32_mono hle) (by rw [val_dig,val_dig];exact hle)
 rw [val_dig,val_dig] at h
 refine h.mono ?_
 rintro e w' ⟨v,h1,h2,h3⟩
 obtain ⟨p,c,rfl,h4,h5⟩:=h2.arr
 exact ⟨p,c,h1,h4,h5,h3⟩

def rvI (s:Bool) (a:Nat):Int:=if s then -(a:Int) else a
def cmI (x y:Int):Int:=if x<y then -1 else if y<x then 1 else 0
theorem rcmp6_ s p l c q k d s2 p2 l2 c2 q2 k2 d2 (a b x y:Nat) (B1 B2:Nat) (w:World) (h1:Own w B1 (.slice p l c) (dig a)) (h2:Own w B1 (.slice q k d) (dig b)) (h3:Own w B2 (.slice p2 l2 c2) (dig x)) (h4:Own w B2 (.slice q2 k2 d2) (dig y)) (zb:b≠0) (zy:y≠0) (la:blen a≤200000) (lb:blen b≤200000) (lx:blen x≤200000) (ly:blen y≤200000):Calls Tryz.prog 77 #[.agg #[.bool s,.slice p l c,.slice q k d],.agg #[.bool s2,.slice p2 l2 c2,.slice q2 k2 d2]] w fun e w'=>e=.returned (.int .i64 (cmI (rvI s a*y) (rvI s2 x*b)))∧Kp w w':=by
 have hs1:∀ W:World,Kp w W→Calls Tryz.prog 133 #[.agg #[.bool s,.slice p l c,.slice q k d]] W fun e w'=>e=.returned (.int .i64 (if a=0 then 0 else if s then -1 else 1))∧Kp W w':=fun W g=>rsign_ s _ _ a W (h1.kp g).ls (by omega)
 have hs2:∀ W:World,Kp w W→Calls Tryz.prog 133 #[.agg #[.bool s2,.slice p2 l2 c2,.slice q2 k2 d2]] W fun e w'=>e=.returned (.int .i64 (if x=0 then 0 else if s2 then -1 else 1))∧Kp W w':=fun W g=>rsign_ s2 _ _ x W (h3.kp g).ls (by omega)
 have len:∀ z:Nat,blen z≤200000→len32 z≤16384:=fun z hz=>dlen z 16384 (by omega)
 have hT1:∀ W:World,Kp w W→Calls Tryz.prog 135 #[.slice p l c,.slice q2 k2 d2] W fun e w'=>∃ v,e=.returned v∧Ls w' v (dig (a*y))∧Kp W w':=fun W g=>(timesR _ _ a y W (h1.kp g).ls (h4.kp g).ls (len a la) (len y ly)).mono (fun e w' ⟨pp,cc,e1,ar,ll,g2⟩=>⟨_,e1,⟨pp,cc,rfl,ar,ll⟩,g2⟩)
 have hT2:∀ W:World,Kp w W→Calls Tryz.prog 135 #[.slice p2 l2 c2,.slice q k d] W fun e w'=>∃ v,e=.returned v∧Ls w' v (dig (x*b))∧Kp W w':=fun W g=>(timesR _ _ x b W (h3.kp g).ls (h2.kp g).ls (len x lx) (len b lb)).mono (fun e w' ⟨pp,cc,e1,ar,ll,g2⟩=>⟨_,e1,⟨pp,cc,rfl,ar,ll⟩,g2⟩)
 have bl:∀ u v:Nat,blen u≤200000→blen v≤200000→blen (u*v)≤33554432:=fun u v h1 h2=>by
  obtain ⟨T5,hT5⟩:∃ T5:Nat,T5=200000:=⟨_,rfl⟩
  have g:blen (u*v)≤T5+T5:=by
   rw [blen_le_iff,Nat.pow_add]
   exact Nat.mul_lt_mul'' ((blen_le_iff u T5).1 (by omega)) ((blen_le_iff v T5).1 (by omega))
  omega
 have hC:∀ (W:World) (u v:Value),Kp w W→Ls W u (dig (a*y))→Ls W v (dig (x*b))→Calls Tryz.prog 134 #[u,v] W fun e w'=>e=.returned (.int .i64 (cmpN (a*y) (x*b)))∧Kp W w':=fun W u v _ g1 g2=>cmpR u v (a*y) (x*b) W g1 g2 (bl a y la ly) (bl x b lx lb)
 have hk:∀ (W W':World) (v:Value),Kp W W'→Ls W v (dig (a*y))→Ls W' v (dig (a*y)):=fun W W' v g h=>h.kp g
 have py:0<y:=by omega
 have pb:0<b:=by omega
 have key:∀ u v:Nat,0<v→0<u→0<u*v:=fun u v h1 h2=>Nat.mul_pos h2 h1
 obtain ⟨A9,hA9⟩:∃ A9,A9=a*y:=⟨_,rfl⟩
 obtain ⟨X9,hX9⟩:∃ X9,X9=x*b:=⟨_,rfl⟩
 have eA:rvI s a*(y:Int)=rvI s A9:=by unfold rvI;rw [hA9];cases s <;> simp [Int.neg_mul]
 have eX:rvI s2 x*(b:Int)=rvI s2 X9:=by unfold rvI;rw [hX9];cases s2 <;> simp [Int.neg_mul]
 have zA:a=0 ↔ A9=0:=by rw [hA9];constructor <;> intro h;rw [h];simp;rcases Nat.mul_eq_zero.1 h with h | h;exact h;omega
 have zX:x=0 ↔ X9=0:=by rw [hX9];constructor <;> intro h;rw [h];simp;rcases Nat.mul_eq_zero.1 h with h | h;exact h;omega
 rw [eA,eX]
 rw [← hA9] at hT1 hC hk
 rw [← hX9] at hT2 hC
 simp only [zA] at hs1
 simp only [zX] at hs2
 obtain ⟨S,hS⟩:∃ S:Int,S=if A9=0 then 0 else if s then -1 else 1:=⟨_,rfl⟩
 obtain ⟨U,hU⟩:∃ U:Int,U=if X9=0 then 0 else if s2 then -1 else 1:=⟨_,rfl⟩
 rw [← hS] at hs1
 rw [← hU] at hs2
 have hcm:cmpN A9 X9=cmI (A9:Int) X9:=by
  unfold cmpN cmI
  by_cases c1:A9<X9
  ·rw [if_pos c1,if_pos (show (A9:Int)<X9 by omega)]
  ·rw [if_neg c1,if_neg (show ¬ (A9:Int)<X9 by omega)]
   by_cases c2:X9<A9
   ·rw [if_pos c2,if_pos (show (X9:Int)<A9 by omega)]
   ·rw [if_neg c2,if_neg (show ¬ (X9:Int)<A9 by omega)]
 clear eA eX zA zX hA9 hX9 h1 h2 h3 h4
 have e1:S<U→cmI (rvI s A9) (rvI s2 X9) = -1:=fun g=>by
  rw [hS,hU] at g
  unfold cmI rvI
  rw [if_pos]
  by_cases c1:A9=0 <;> by_cases c2:X9=0 <;> cases s <;> cases s2 <;> simp [c1,c2] at g ⊢ <;> omega
 have e2:U<S→cmI (rvI s A9) (rvI s2 X9)=1:=fun g=>by
  rw [hS,hU] at g
  have:rvI s2 X9<rvI s A9:=by
   unfold rvI
   by_cases c1:A9=0 <;> by_cases c2:X9=0 <;> cases s <;> cases s2 <;> simp [c1,c2] at g ⊢ <;> omega
  unfold cmI
  rw [if_neg (by omega),if_pos this]
 rcases Int.lt_trichotomy S U with g | g | g
 ·rw [e1 g]
  exact rcmpL_ S U s p l c q k d s2 p2 l2 c2 q2 k2 d2 w hs1 hs2 g
 ·rw [← g] at hs2
  by_cases z:A9=0
  ·have zU:X9=0:=by
    rw [hS,hU,if_pos z] at g
    by_cases c2:X9=0
    ·exact c2
    ·rw [if_neg c2] at g;cases s2 <;> simp at g
   have e3:cmI (rvI s A9) (rvI s2 X9)=0:=by rw [z,zU];cases s <;> cases s2 <;> rfl
   rw [e3]
   exact rcmpZ_ S _ _ _ s p l c q k d s2 p2 l2 c2 q2 k2 d2 w hk hs1 hs2 hT1 hT2 hC (by rw [hS,if_pos z];rfl)
  ·have zS:(S == 0)=false:=by rw [hS,if_neg z];cases s <;> rfl
   have ss:s=s2:=by
    rw [hS,hU,if_neg z] at g
    by_cases c2:X9=0
    ·rw [if_pos c2] at g;cases s <;> simp at g
    ·rw [if_neg c2] at g;cases s <;> cases s2 <;> simp at g ⊢
   subst ss
   cases s
   ·have e3:cmI (rvI false A9) (rvI false X9)=cmpN A9 X9:=hcm.symm
    rw [e3]
    exact rcmpP_ S _ _ _ p l c q k d false p2 l2 c2 q2 k2 d2 w hk hs1 hs2 hT1 hT2 hC zS
   ·have e3:cmI (rvI true A9) (rvI true X9) = - cmpN A9 X9:=by
     rw [hcm];unfold cmI rvI
     by_cases c1:A9<X9
     ·rw [if_neg (by simp;omega),if_pos (by simp;omega),if_pos (by omega)];rfl
     ·by_cases c2:X9<A9
      ·rw [if_pos (by simp;omega),if_neg (by omega),if_pos (by omega)]
      ·rw [if_neg (by simp;omega),if_neg (by simp;omega),if_neg (by omega),if_neg (by omega)];rfl
    have wr:IntKind.i64.wrap (-(cmpN A9 X9)) = -(cmpN A9 X9):=by
     rw [hcm];unfold cmI
     by_cases c1:(A9:Int)<X9
     ·rw [if_pos c1];decide +kernel
     ·rw [if_neg c1]
      by_cases c2:(X9:Int)<A9
      ·rw [if_pos c2];decide +kernel
      ·rw [if_neg c2];decide +kernel
    rw [e3]
    exact rcmpN_ S _ _ _ p l c q k d true p2 l2 c2 q2 k2 d2 w hk hs1 hs2 hT1 hT2 hC zS wr
 ·rw [e2 g]
  exact rcmpG_ S U s p l c q k d s2 p2 l2 c2 q2 k2 d2 w hs1 hs2 g
end Go.Proofs.YtmpjcknaelgnoaaGreatDoor
