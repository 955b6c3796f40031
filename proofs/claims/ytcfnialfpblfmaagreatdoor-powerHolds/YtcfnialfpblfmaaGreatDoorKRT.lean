import Derived.Test.YtcfnialfpblfmaaGreatDoorKS2
set_option maxHeartbeats 3000000
set_option maxRecDepth 20000
namespace Go.Proofs.YtcfnialfpblfmaaGreatDoor
open Go.RowKit
theorem rtimes_ (p q:Option Addr) (c d:Nat) (xs ys:List Int) (w:World) (hx:Arr w p xs) (hy:Arr w q ys) (hwx:Wd xs) (hwy:Wd ys) (lx:xs.length≤16777216) (ly:ys.length≤16777216) :
  Calls Tryz.prog 70 #[.slice p xs.length c,.slice q ys.length d] w fun e w'=>∃ v,e=.returned v∧Own w' w.heap.size v (dig (val xs*val ys))∧Kp w w':=by
 have h1:=words_ p c xs w hx (by omega)
 have h2:=words_ q d ys w hy (by omega)
 have lS:=tl_le xs
 have lT:=tl_le ys
 have hvx:=val_tl xs
 have hvy:=val_tl ys
 obtain ⟨N,hN⟩:∃ N,N=xs.length:=⟨_,rfl⟩
 obtain ⟨M,hM⟩:∃ M,M=ys.length:=⟨_,rfl⟩
 obtain ⟨S,hS⟩:∃ S,S=tl xs:=⟨_,rfl⟩
 obtain ⟨T,hT⟩:∃ T,T=tl ys:=⟨_,rfl⟩
 rw [← hS] at h1 lS hvx
 rw [← hT] at h2 lT hvy
 have hmk:∀ w:World,(Instr.makeSlice 41 (.int .i64 ((S:Int)+(T:Int))) (.int .i64 ((S:Int)+(T:Int)))).run Tryz.prog w=.ok (.slice (some ⟨w.heap.size,0,none⟩) (S+T) (S+T)) (w.alloc (.cells (madeCells #[.int .u32 0] (S+T)) 81)):=by
  have:=mk32 (S+T) (by omega)
  simpa using this
 have hk1:Kp w (w.alloc (.cells (madeCells #[.int .u32 0] (S+T)) 81)):=(Kp.refl w).alloc _
 have hrz:Rw (w.alloc (.cells (madeCells #[.int .u32 0] (S+T)) 81)) w.heap.size (S+T) (List.replicate (S+T) 0):=World.rowIs.congr (World.rowIs_made w (.int .u32 0) (S+T) 81) (fun j _=>by rw [rep0_getD])
 obtain ⟨zs0,hz0⟩:∃ zs0,zs0=List.replicate (S+T) (0:Int):=⟨_,rfl⟩
 have hzl0:zs0.length=S+T:=by rw [hz0];simp
 have hwz0:Wd zs0:=by rw [hz0];exact Wd_rep0 _
 have hzz0:∀ j,zs0.getD j 0=0:=fun j=>by rw [hz0];exact rep0_getD _ _
 have hvz0:=val_zeros zs0 hzz0
 rw [← hz0] at hrz
 have HX:Hid (Arr w p xs∧Wd xs∧val (xs.take S)=val xs):=⟨hx,hwx,hvx⟩
 have HY:Hid (Arr w q ys∧Wd ys∧val (ys.take T)=val ys):=⟨hy,hwy,hvy⟩
 have HN:Hid (N=xs.length∧M=ys.length):=⟨hN,hM⟩
 obtain ⟨g,hg⟩:∃ g,g=w.heap.size:=⟨_,rfl⟩
 rw [← hg] at hrz
 have HG:Hid (g=w.heap.size):=hg
 rw [← hN] at lx h1 lS ⊢
 rw [← hM] at ly h2 lT ⊢
 clear hx hy hwx hwy hN hM hz0 hS hT hvx hvy
 go_enter Tryz.func70,Tryz.ntmps70
 go_wp2_with fail
 refine SM h1 ?_
 go_wp2_with fail
 refine SM h2 ?_
 go_wp2
 rw [← hg]
 clear hmk hg h1 h2
 go_loopw [8] (fun i wr=>∃ (k:Nat) (zs:List Int),i=.int .i64 k∧k≤T∧Rw wr g (S+T) zs∧zs.length=S+T∧Wd zs∧val zs=val (ys.take k)*val xs∧(∀ j,k+S≤j→zs.getD j 0=0)∧Kp w wr) (fun i _=>T - (intOf i).toNat)
 case atStart=>exact ⟨0,zs0,rfl,Nat.zero_le _,hrz,hzl0,hwz0,by rw [hvz0];simp [val],fun j _=>hzz0 j,hk1⟩
 case round =>
  clear hrz hzl0 hwz0 hzz0 hvz0 hk1
  obtain ⟨k,zs,rfl,hk,hrow,hzl,hwz,hv,hzz,hkp⟩:=hrel
  obtain ⟨hN,hM⟩:=HN.out
  by_cases ck:k<T
  ·obtain ⟨b,off,rfl,hc⟩:=HY.out.1.at (k:=k) (by omega)
   have e0:=hc k (by omega)
   have e1:=kkeep hkp e0
   have wy:=HY.out.2.1 k
   have hrp:=row_prod ys k (val xs)
   obtain ⟨Y,hY⟩:∃ Y:Nat,(Y:Int)=ys.getD k 0:=⟨(ys.getD k 0).toNat,by omega⟩
   rw [← hY] at e1 wy hrp
   rw [Int.toNat_natCast] at hrp
   have i0:(0:Int)≤(k:Int):=by omega
   have i1:(k:Int)<(T:Int):=by omega
   have i1':(k:Int)<(M:Int):=by omega
   by_cases cY:Y=0
   ·subst cY
    have hv2:val zs=val (ys.take (k+1))*val xs:=by rw [← hrp,hv];simp
    have t1:(((0:Nat):Int) == 0)=true:=by simp
    clear hc e0 HX HY HN HG hN hM hY wy hrp hv
    go_wp2
    exact ⟨⟨k+1,zs,by go_num,by omega,hrow,hzl,hwz,hv2,fun j hj=>hzz j (by omega),hkp⟩,by simp [intOf];omega⟩
   ·have t1:((Y:Int) == 0)=false:=by simp;omega
    have fY:IntKind.u64.wrap (Y:Int)=(Y:Int):=by rw [IntKind.wrap_u64];omega
    have hY32:Y<4294967296:=by omega
    have HV:Hid (val zs+val xs*Y*4294967296 ^ k=val (ys.take (k+1))*val xs∧(∀ j,k+S≤j→zs.getD j 0=0)):=⟨by rw [hv];exact hrp,hzz⟩
    clear hc e0 HY hN hM hY wy hrp hv hzz
    go_wp2
    clear t1 fY
    go_loopw [10,11] (fun cc ii wq=>∃ (m C:Nat) (us:List Int),cc=.int .u64 (C:Int)∧ii=.int .i64 m∧m≤S∧Rw wq g (S+T) us∧us.length=S+T∧Wd us∧C<4294967296∧val us+C*4294967296 ^ (k+m)=val zs+val (xs.take m)*Y*4294967296 ^ k∧(∀ j,k+m≤j→us.getD j 0=zs.getD j 0)∧Kp w wq) (fun _ i _=>S - (intOf i).toNat)
    case atStart=>exact ⟨0,0,zs,rfl,rfl,Nat.zero_le _,hrow,hzl,hwz,by omega,by simp [val],fun j _=>rfl,hkp⟩
    case round =>
     clear hrow hwz hkp e1
     obtain ⟨m,C,us,rfl,rfl,hm,hrow,hul,hwu,hC,hv,hsam,hkp⟩:=hrel
     obtain ⟨hN,hM⟩:=HN.out
     by_cases cm:m<S
     ·obtain ⟨b',off',rfl,hc'⟩:=HX.out.1.at (k:=m) (by omega)
      have e2:=kkeep hkp (hc' m (by omega))
      have e1:=World.rowIs.cell hrow (i:=m+k) (by omega)
      have wx:=HX.out.2.1 m
      have wz:=hwu (m+k)
      obtain ⟨X,hX⟩:∃ X:Nat,(X:Int)=xs.getD m 0:=⟨(xs.getD m 0).toNat,by omega⟩
      obtain ⟨Z0,hZ0⟩:∃ Z0:Nat,(Z0:Int)=us.getD (m+k) 0:=⟨(us.getD (m+k) 0).toNat,by omega⟩
      rw [← hX] at e2
      rw [← hZ0] at e1
      have hmw:=mul_word X Y C Z0 (by omega) hY32 hC (by omega)
      obtain ⟨P,hP⟩:∃ P,P=X*Y:=⟨_,rfl⟩
      rw [← hP] at hmw
      obtain ⟨Q,hQ⟩:∃ Q:Nat,Q=(Z0:Int).toNat+((P:Nat):Int).toNat+C:=⟨_,rfl⟩
      rw [Nat.add_comm m k] at hZ0
      have hst:=sum_step us (k+m) C Q _ (Z0:Int) (P:Int) (by omega) hZ0.symm hQ hv
      simp only [Int.toNat_natCast] at hQ hst
      have hg2:=mul_grow xs Y k m
      rw [← hX,Int.toNat_natCast,← hP] at hg2
      rw [Nat.add_assoc (val zs),← hg2,Nat.add_assoc k m 1] at hst
      have f1:IntKind.u64.wrap (X:Int)=(X:Int):=by rw [IntKind.wrap_u64];omega
      have f2:IntKind.u64.wrap ((X:Int)*(Y:Int))=(P:Int):=by
       have:(X:Int)*(Y:Int)=(P:Int):=by rw [hP];exact (Int.natCast_mul X Y).symm
       rw [this,IntKind.wrap_u64];omega
      have f3:IntKind.u64.wrap (Z0:Int)=(Z0:Int):=by rw [IntKind.wrap_u64];omega
      have f4:IntKind.u64.wrap ((C:Int)+(Z0:Int))=(C:Int)+(Z0:Int):=by rw [IntKind.wrap_u64];omega
      have f5:IntKind.u64.wrap ((C:Int)+(Z0:Int)+(P:Int))=(Q:Int):=by rw [IntKind.wrap_u64];omega
      have f8:=and32 Q (by omega)
      obtain ⟨Z,hZ⟩:∃ Z:Nat,Z=Q % 4294967296:=⟨_,rfl⟩
      obtain ⟨C',hC2⟩:∃ C':Nat,C'=Q / 4294967296:=⟨_,rfl⟩
      rw [← hZ] at f8
      have f6:IntKind.u32.wrap (Z:Int)=(Z:Int):=by rw [IntKind.wrap_u32];omega
      have f7:(Q:Int) / 4294967296=(C':Int):=by omega
      rw [← hZ,← hC2] at hst
      have hC':C'<4294967296:=by omega
      have hw2:Wd (us.set (m+k) (Z:Int)):=hwu.set (m+k) Z (by omega)
      have hl2:(us.set (m+k) (Z:Int)).length=S+T:=by rw [List.length_set];exact hul
      have hsam2:∀ j,k+(m+1)≤j→(us.set (m+k) (Z:Int)).getD j 0=zs.getD j 0:=fun j h1=>by
       rw [← hsam j (by omega)];simp [List.getD,show ¬ m+k=j from by omega]
      have ekm:k+m=m+k:=Nat.add_comm k m
      rw [ekm] at hst
      clear ekm
      have hik:m+k<us.length:=by omega
      have hik2:m+k<S+T:=by omega
      have j0:(0:Int)≤(m:Int):=by omega
      have j1:(m:Int)<(S:Int):=by omega
      have j2:(m:Int)<(N:Int):=by omega
      have j3:(0:Int)≤(m:Int)+(k:Int):=by omega
      have j4:(m:Int)+(k:Int)<(S:Int)+(T:Int):=by omega
      have hgw:w.heap.size≤g:=by rw [HG.out];exact Nat.le_refl _
      clear hc' HX HN HG hN hM hX hZ0 hZ hC2 hQ hv hP hg2 wx wz hwu hC hsam hul hmw HV hzl
      go_wp2
      refine wp_region_kp (by kernel_rfl) (by kernel_rfl) (fun ι _ G hG hall=>?_)
      have c0:∀ n,(G n).cell? ⟨g,m+k,none⟩=some (.int .u32 (Z0:Int)):=fun n=>kkeep (hG n) e1
      have c1:∀ n,(G n).cell? ⟨b',off'+m,none⟩=some (.int .u32 (X:Int)):=fun n=>kkeep (hG n) e2
      repeat (go_big_quiet_step (fail))
      refine wpQuiet_nil ?_
      rintro _ ⟨nq,rfl⟩
      have gq:=hG nq
      replace hrow:=hrow.grown gq
      have e3:=World.rowIs.cell hrow (i:=m+k) hik2
      have e4:=World.rowIs.frozen hrow (m+k)
      have hR:=hrow.set (m+k) (Z:Int) hik
      have hK:=(hkp.trans gq).setCell (p:=⟨g,m+k,none⟩) hgw (.int .u32 (Z:Int))
      clear c0 c1 hall hG gq e1 e2 hrow hkp
      go_wp2
      exact ⟨⟨m+1,C',us.set (m+k) (Z:Int),by go_num,by go_num,by omega,hR,hl2,hw2,hC',hst,hsam2,hK⟩,by simp [intOf];omega⟩
     ·have hmS:m=S:=by omega
      subst hmS
      have hvx:=HX.out.2.2
      rw [hvx] at hv
      obtain ⟨hV1,hV2⟩:=HV.out
      have hu0:us.getD (k+m) 0=0:=by rw [hsam _ (Nat.le_refl _)];exact hV2 _ (Nat.le_refl _)
      have hvs:=val_set us (k+m) (C:Int) (by omega)
      rw [hu0,Int.toNat_natCast,hv,hV1] at hvs
      have hv3:val (us.set (k+m) (C:Int))=val (ys.take (k+1))*val xs:=by simpa using hvs
      have hgw:w.heap.size≤g:=by rw [HG.out];exact Nat.le_refl _
      have hR:=hrow.set (k+m) (C:Int) (by omega)
      have hK:Kp w (wr.setCell ⟨g,k+m,none⟩ (.int .u32 (C:Int))):=hkp.setCell hgw _
      have hw3:Wd (us.set (k+m) (C:Int)):=hwu.set _ _ (by omega)
      have hl3:(us.set (k+m) (C:Int)).length=m+T:=by rw [List.length_set];exact hul
      have hz3:∀ j,k+1+m≤j→(us.set (k+m) (C:Int)).getD j 0=0:=fun j hj=>by
       have e1:(us.set (k+m) (C:Int)).getD j 0=us.getD j 0:=by simp [List.getD,show ¬ k+m=j from by omega]
       rw [e1,hsam j (by omega)]
       exact hV2 j (by omega)
      have e3:=World.rowIs.cell hrow (i:=k+m) (by omega)
      have e4:=World.rowIs.frozen hrow (k+m)
      have f6:IntKind.u32.wrap (C:Int)=(C:Int):=by rw [IntKind.wrap_u32];omega
      have i2:¬ ((m:Int)<(m:Int)):=by omega
      have j3:(0:Int)≤(k:Int)+(m:Int):=by omega
      have j4:(k:Int)+(m:Int)<(m:Int)+(T:Int):=by omega
      clear HX HN HG hN hM hv hvs hsam hkp hrow HV hV1 hV2 hvx hwu hul hu0 hC cm hm hzl
      go_wp2
      exact ⟨⟨k+1,us.set (k+m) (C:Int),by go_num,by omega,hR,hl3,hw3,hv3,hz3,hK⟩,by simp [intOf];omega⟩
  ·have hkN:k=T:=by omega
   subst hkN
   have hvy:=HY.out.2.2
   rw [hvy] at hv
   have hA:=hrow.arr (S+k) (Nat.le_refl _) (by omega)
   rw [List.take_of_length_le (by omega)] at hA
   have hno:=rnorm_ (some ⟨g,0,none⟩) (S+k) zs wr hA (by omega)
   rw [nz_dig zs hwz,hv,hzl,Nat.mul_comm] at hno
   have hsz:=hkp.size
   have i2:¬ ((k:Int)<(k:Int)):=by omega
   clear hA hrow hzl hwz hv HX HY HN HG hN hM hzz hvy hk ck
   go_wp2_with fail
   refine hno.mono ?_
   rintro e w2 ⟨v2,rfl,hO2,hk2⟩
   clear hno
   go_wp2
   exact BR (v:=v2) (by simp [results,Tryz.results70,go_sem] <;> simp only [*]) rfl ⟨v2,rfl,hO2.mono hsz,hkp.trans hk2⟩
theorem rminus_ (p q:Option Addr) (c d:Nat) (xs ys:List Int) (w:World) (hx:Arr w p xs) (hy:Arr w q ys) (hwx:Wd xs) (hwy:Wd ys) (lx:xs.length<1099511627776) (hl:ys.length≤xs.length) (hle:val ys≤val xs) :
  Calls Tryz.prog 105 #[.slice p xs.length c,.slice q ys.length d] w fun e w'=>∃ v,e=.returned v∧Own w' w.heap.size v (dig (val xs - val ys))∧Kp w w':=by
 obtain ⟨N,hN⟩:∃ N,N=xs.length:=⟨_,rfl⟩
 obtain ⟨M,hM⟩:∃ M,M=ys.length:=⟨_,rfl⟩
 rw [← hN] at lx hl ⊢
 rw [← hM] at hl ⊢
 have HX:Hid (Arr w p xs):=hx
 have HY:Hid (Arr w q ys):=hy
 have HW:Hid (Wd xs∧Wd ys∧val ys≤val xs):=⟨hwx,hwy,hle⟩
 have HN:Hid (N=xs.length∧M=ys.length∧N<1099511627776∧M≤N):=⟨hN,hM,lx,hl⟩
 obtain ⟨i0,hi0,hi1,hi2,hi3⟩:=inf32p
 clear hN hM hx hy hwx hwy lx hl hle
 go_enter Tryz.func105,Tryz.ntmps105
 go_wp2
 go_loopw [5,6,7] (fun a cc i wr=>∃ (v:Value) (k C:Nat) (L:List Int),v=a∧cc=.int .u64 C∧i=.int .i64 k∧Own wr w.heap.size v L∧Kp w wr∧L.length=k∧Wd L∧C≤1∧val L+val (ys.take k)=val (xs.take k)+C*4294967296 ^ k∧k≤N) (fun _ _ i _=>N - (intOf i).toNat)
 case atStart=>exact ⟨_,0,0,[],rfl,rfl,rfl,Own.nil _ _,Kp.refl _,rfl,Wd.nil,by omega,by simp [val],by omega⟩
 case round =>
  obtain ⟨v,k,C,L,rfl,rfl,rfl,hown,hkp,hL,hw,hC,hv,hk⟩:=hrel
  obtain ⟨hN,hM,lx,hl⟩:=HN.out
  by_cases ca:k<N
  ·by_cases cb:k<M
   ·skip
    obtain ⟨b,off,rfl,hc⟩:=HX.out.at (k:=k) (by omega)
    have e1:=kkeep hkp (hc k (by omega))
    obtain ⟨b',off',rfl,hc'⟩:=HY.out.at (k:=k) (by omega)
    have e2:=kkeep hkp (hc' k (by omega))
    have wx:=HW.out.1 k
    have wy:=HW.out.2.1 k
    obtain ⟨X,hX⟩:∃ X,X=xs.getD k 0:=⟨_,rfl⟩
    obtain ⟨Y,hY⟩:∃ Y,Y=ys.getD k 0:=⟨_,rfl⟩
    have hst:=fun (C' Z:Nat) h=>minus_step L xs ys k C C' Z hL h hv
    rw [← hX,← hY] at hst
    rw [← hX] at wx e1
    rw [← hY] at wy e2
    have f1:IntKind.u64.wrap X=X:=by rw [IntKind.wrap_u64];omega
    obtain ⟨T,hT⟩:∃ T:Int,T=Y+(C:Int):=⟨_,rfl⟩
    have f2:IntKind.u64.wrap Y=Y:=by rw [IntKind.wrap_u64];omega
    have f3:IntKind.u64.wrap ((C:Int)+Y)=T:=by rw [IntKind.wrap_u64];omega
    by_cases ct:X<T
    ·skip
     obtain ⟨Z,hZ⟩:∃ Z:Nat,Z=(X+4294967296 - T).toNat:=⟨_,rfl⟩
     have f4:IntKind.u64.wrap (X+4294967296)=X+4294967296:=by rw [IntKind.wrap_u64];omega
     have f5:IntKind.u64.wrap (X+4294967296 - T)=(Z:Int):=by rw [IntKind.wrap_u64];omega
     have hs2:=hst 1 Z (by omega)
     have f6:IntKind.u32.wrap (Z:Int)=(Z:Int):=by rw [IntKind.wrap_u32];omega
     have hWL:Wd (L ++ [(Z:Int)]):=hw.append (Wd.one (by omega))
     have hob:=own_block hown
     have hown':wr.ownsRow w.heap.size 81 1 v k (L.map (Value.int .u32)):=by rw [← hL];exact hown
     have hsz:=hkp.size
     have hkb:k<1099511627776:=by omega
     have j0:(0:Int)≤(k:Int):=by omega
     have j1:(k:Int)<(N:Int):=by omega
     have j2:((k:Int)<(M:Int)):=by omega
     clear ca cb
     clear hc hc' HX HY HW HN hN hM hX hY hv hZ hT hown wx wy hw hC hst
     go_wp2_with (first | (at_builtin;refine wpList_append_own _ rfl _ _ 41 rfl w.heap.size 81 i0 (.int .u32 0) 1 4 Tryz.underlying41 hi0 hi1 hi2 hi3 rfl (by decide) _ _ _ rfl (hown'.alloc _) ⟨wr.heap.size,0,none⟩ 1 1 [.int .u32 (Z:Int)] rfl rfl ?c1f0 ?c2f0 ?c3f0 ?c4f0 ?c5f0 ?_))
     try case c1f0 =>
      intro j' u hj'
      match j',hj' with
      | 0,hj'=>simp at hj';subst hj';simp [Addr.add]
     case c2f0=>first | rfl | (intro u hu;simp at hu;subst hu;rfl)
     case c3f0=>unfold maxLen;omega
     case c4f0=>omega
     case c5f0=>first | omega | (simp;omega)
     intro v' w1 hown2 hgrow _
     have hO:Own w1 w.heap.size v' (L ++ [(Z:Int)]):=by refine Own.push ?_;rw [hL];exact hown2
     have hK2:Kp w w1:=(hkp.alloc _).grown hgrow hob
     clear hown2 hgrow hown' hkp hob hsz
     go_wp2
     exact ⟨⟨_,k+1,1,_,rfl,rfl,by go_num,hO,hK2,by simp [hL],hWL,by omega,hs2,by omega⟩,by simp [intOf];omega⟩
    ·skip
     obtain ⟨Z,hZ⟩:∃ Z:Nat,Z=(X - T).toNat:=⟨_,rfl⟩
     have f5:IntKind.u64.wrap (X - T)=(Z:Int):=by rw [IntKind.wrap_u64];omega
     have hs2:=hst 0 Z (by omega)
     have f6:IntKind.u32.wrap (Z:Int)=(Z:Int):=by rw [IntKind.wrap_u32];omega
     have hWL:Wd (L ++ [(Z:Int)]):=hw.append (Wd.one (by omega))
     have hob:=own_block hown
     have hown':wr.ownsRow w.heap.size 81 1 v k (L.map (Value.int .u32)):=by rw [← hL];exact hown
     have hsz:=hkp.size
     have hkb:k<1099511627776:=by omega
     have j0:(0:Int)≤(k:Int):=by omega
     have j1:(k:Int)<(N:Int):=by omega
     have j2:((k:Int)<(M:Int)):=by omega
     clear ca cb
     clear hc hc' HX HY HW HN hN hM hX hY hv hZ hT hown wx wy hw hC hst
     go_wp2_with (first | (at_builtin;refine wpList_append_own _ rfl _ _ 41 rfl w.heap.size 81 i0 (.int .u32 0) 1 4 Tryz.underlying41 hi0 hi1 hi2 hi3 rfl (by decide) _ _ _ rfl (hown'.alloc _) ⟨wr.heap.size,0,none⟩ 1 1 [.int .u32 (Z:Int)] rfl rfl ?c1f1 ?c2f1 ?c3f1 ?c4f1 ?c5f1 ?_))
     try case c1f1 =>
      intro j' u hj'
      match j',hj' with
      | 0,hj'=>simp at hj';subst hj';simp [Addr.add]
     case c2f1=>first | rfl | (intro u hu;simp at hu;subst hu;rfl)
     case c3f1=>unfold maxLen;omega
     case c4f1=>omega
     case c5f1=>first | omega | (simp;omega)
     intro v' w1 hown2 hgrow _
     have hO:Own w1 w.heap.size v' (L ++ [(Z:Int)]):=by refine Own.push ?_;rw [hL];exact hown2
     have hK2:Kp w w1:=(hkp.alloc _).grown hgrow hob
     clear hown2 hgrow hown' hkp hob hsz
     go_wp2
     exact ⟨⟨_,k+1,0,_,rfl,rfl,by go_num,hO,hK2,by simp [hL],hWL,by omega,hs2,by omega⟩,by simp [intOf];omega⟩
   ·skip
    obtain ⟨b,off,rfl,hc⟩:=HX.out.at (k:=k) (by omega)
    have e1:=kkeep hkp (hc k (by omega))
    have wx:=HW.out.1 k
    have wy:=HW.out.2.1 k
    have hy0:ys.getD k 0=0:=getD_out ys k (by omega)
    obtain ⟨X,hX⟩:∃ X,X=xs.getD k 0:=⟨_,rfl⟩
    obtain ⟨Y,hY⟩:∃ Y,Y=ys.getD k 0:=⟨_,rfl⟩
    have hst:=fun (C' Z:Nat) h=>minus_step L xs ys k C C' Z hL h hv
    rw [← hX,← hY] at hst
    rw [← hX] at wx e1
    rw [← hY] at wy hy0
    have f1:IntKind.u64.wrap X=X:=by rw [IntKind.wrap_u64];omega
    by_cases ct:X<(C:Int)
    ·skip
     obtain ⟨Z,hZ⟩:∃ Z:Nat,Z=(X+4294967296 - (C:Int)).toNat:=⟨_,rfl⟩
     have f4:IntKind.u64.wrap (X+4294967296)=X+4294967296:=by rw [IntKind.wrap_u64];omega
     have f5:IntKind.u64.wrap (X+4294967296 - (C:Int))=(Z:Int):=by rw [IntKind.wrap_u64];omega
     have hs2:=hst 1 Z (by omega)
     have f6:IntKind.u32.wrap (Z:Int)=(Z:Int):=by rw [IntKind.wrap_u32];omega
     have hWL:Wd (L ++ [(Z:Int)]):=hw.append (Wd.one (by omega))
     have hob:=own_block hown
     have hown':wr.ownsRow w.heap.size 81 1 v k (L.map (Value.int .u32)):=by rw [← hL];exact hown
     have hsz:=hkp.size
     have hkb:k<1099511627776:=by omega
     have j0:(0:Int)≤(k:Int):=by omega
     have j1:(k:Int)<(N:Int):=by omega
     have j2:¬ ((k:Int)<(M:Int)):=by omega
     clear ca cb
     clear hc hy0 HX HY HW HN hN hM hX hY hv hZ hown wx wy hw hC hst
     go_wp2_with (first | (at_builtin;refine wpList_append_own _ rfl _ _ 41 rfl w.heap.size 81 i0 (.int .u32 0) 1 4 Tryz.underlying41 hi0 hi1 hi2 hi3 rfl (by decide) _ _ _ rfl (hown'.alloc _) ⟨wr.heap.size,0,none⟩ 1 1 [.int .u32 (Z:Int)] rfl rfl ?c1g0 ?c2g0 ?c3g0 ?c4g0 ?c5g0 ?_))
     try case c1g0 =>
      intro j' u hj'
      match j',hj' with
      | 0,hj'=>simp at hj';subst hj';simp [Addr.add]
     case c2g0=>first | rfl | (intro u hu;simp at hu;subst hu;rfl)
     case c3g0=>unfold maxLen;omega
     case c4g0=>omega
     case c5g0=>first | omega | (simp;omega)
     intro v' w1 hown2 hgrow _
     have hO:Own w1 w.heap.size v' (L ++ [(Z:Int)]):=by refine Own.push ?_;rw [hL];exact hown2
     have hK2:Kp w w1:=(hkp.alloc _).grown hgrow hob
     clear hown2 hgrow hown' hkp hob hsz
     go_wp2
     exact ⟨⟨_,k+1,1,_,rfl,rfl,by go_num,hO,hK2,by simp [hL],hWL,by omega,hs2,by omega⟩,by simp [intOf];omega⟩
    ·skip
     obtain ⟨Z,hZ⟩:∃ Z:Nat,Z=(X - (C:Int)).toNat:=⟨_,rfl⟩
     have f5:IntKind.u64.wrap (X - (C:Int))=(Z:Int):=by rw [IntKind.wrap_u64];omega
     have hs2:=hst 0 Z (by omega)
     have f6:IntKind.u32.wrap (Z:Int)=(Z:Int):=by rw [IntKind.wrap_u32];omega
     have hWL:Wd (L ++ [(Z:Int)]):=hw.append (Wd.one (by omega))
     have hob:=own_block hown
     have hown':wr.ownsRow w.heap.size 81 1 v k (L.map (Value.int .u32)):=by rw [← hL];exact hown
     have hsz:=hkp.size
     have hkb:k<1099511627776:=by omega
     have j0:(0:Int)≤(k:Int):=by omega
     have j1:(k:Int)<(N:Int):=by omega
     have j2:¬ ((k:Int)<(M:Int)):=by omega
     clear ca cb
     clear hc hy0 HX HY HW HN hN hM hX hY hv hZ hown wx wy hw hC hst
     go_wp2_with (first | (at_builtin;refine wpList_append_own _ rfl _ _ 41 rfl w.heap.size 81 i0 (.int .u32 0) 1 4 Tryz.underlying41 hi0 hi1 hi2 hi3 rfl (by decide) _ _ _ rfl (hown'.alloc _) ⟨wr.heap.size,0,none⟩ 1 1 [.int .u32 (Z:Int)] rfl rfl ?c1g1 ?c2g1 ?c3g1 ?c4g1 ?c5g1 ?_))
     try case c1g1 =>
      intro j' u hj'
      match j',hj' with
      | 0,hj'=>simp at hj';subst hj';simp [Addr.add]
     case c2g1=>first | rfl | (intro u hu;simp at hu;subst hu;rfl)
     case c3g1=>unfold maxLen;omega
     case c4g1=>omega
     case c5g1=>first | omega | (simp;omega)
     intro v' w1 hown2 hgrow _
     have hO:Own w1 w.heap.size v' (L ++ [(Z:Int)]):=by refine Own.push ?_;rw [hL];exact hown2
     have hK2:Kp w w1:=(hkp.alloc _).grown hgrow hob
     clear hown2 hgrow hown' hkp hob hsz
     go_wp2
     exact ⟨⟨_,k+1,0,_,rfl,rfl,by go_num,hO,hK2,by simp [hL],hWL,by omega,hs2,by omega⟩,by simp [intOf];omega⟩
  ·have hkN:k=N:=by omega
   have hv2:val L=val xs - val ys:=by
    rw [List.take_of_length_le (by omega),List.take_of_length_le (by omega)] at hv
    have:=minus_end L xs ys C k hL hw HW.out.2.2 hv hC
    subst this
    omega
   have hLl:L.length≤1099511627776:=by omega
   obtain ⟨p',c',rfl,hA,_⟩:=hown.arr
   have hno:=rnorm_ p' c' L wr hA hLl
   rw [nz_dig L hw,hv2] at hno
   obtain ⟨D,hD⟩:∃ D,D=L.length:=⟨_,rfl⟩
   rw [← hD] at hno ⊢
   have i2:¬ ((k:Int)<(N:Int)):=by omega
   clear HX HY HW HN hN hM hv hown hw hC hA hv2 hL hLl hD hkN ca lx hl
   go_wp2_with fail
   refine hno.mono ?_
   rintro e w2 ⟨v2,rfl,hO2,hk2⟩
   clear hno
   go_wp2
   exact BR (v:=v2) (by simp [results,Tryz.results105,go_sem] <;> simp only [*]) rfl ⟨v2,rfl,hO2.mono hkp.size,hkp.trans hk2⟩
theorem rcmpL_ (S T9:Int) s p l c q k d s2 p2 l2 c2 q2 k2 d2 (w:World) (hs1:∀ W:World,Kp w W→Calls Tryz.prog 30 #[.agg #[.bool s,.slice p l c,.slice q k d]] W fun e w'=>e=.returned (.int .i64 S)∧Kp W w') (hs2:∀ W:World,Kp w W→Calls Tryz.prog 30 #[.agg #[.bool s2,.slice p2 l2 c2,.slice q2 k2 d2]] W fun e w'=>e=.returned (.int .i64 T9)∧Kp W w') (t1:S<T9):Calls Tryz.prog 33 #[.agg #[.bool s,.slice p l c,.slice q k d],.agg #[.bool s2,.slice p2 l2 c2,.slice q2 k2 d2]] w fun e w'=>e=.returned (.int .i64 (-1))∧Kp w w':=by
 go_enter Tryz.func33,Tryz.ntmps33
 go_wp2_with (first | (go_at_call_of 30 (Value.slice p l c);refine (hs1 _ ?q0).mono ?_;(case q0=>exact ((Kp.refl w).alloc _).alloc _);rintro e wa ⟨rfl,ga⟩;have ka:Kp w wa:=Kp.trans (((Kp.refl w).alloc _).alloc _) ga;have x0:=kkeep ga (b:=w.heap.size) (o:=0) (v:=.bool s) (by simp [go_sem]);have x1:=kkeep ga (b:=w.heap.size) (o:=1) (v:=.slice p l c) (by simp [go_sem]);have x2:=kkeep ga (b:=w.heap.size) (o:=2) (v:=.slice q k d) (by simp [go_sem]);have x3:=kkeep ga (b:=w.heap.size+1) (o:=0) (v:=.bool s2) (by simp [go_sem]);have x4:=kkeep ga (b:=w.heap.size+1) (o:=1) (v:=.slice p2 l2 c2) (by simp [go_sem]);have x5:=kkeep ga (b:=w.heap.size+1) (o:=2) (v:=.slice q2 k2 d2) (by simp [go_sem])) | (go_at_call_of 30 (Value.slice p2 l2 c2);refine (hs2 _ ?q0).mono ?_;(case q0=>exact ka);rintro e wb ⟨rfl,gb⟩;have kb:Kp w wb:=Kp.trans ka gb;have y0:=kkeep gb x0;have y1:=kkeep gb x1;have y2:=kkeep gb x2;have y3:=kkeep gb x3;have y4:=kkeep gb x4;have y5:=kkeep gb x5))
 exact BR (v:=.int .i64 (-1)) (by simp [results,Tryz.results33,go_sem]) rfl ⟨rfl,kb⟩
theorem rcmpG_ (S T9:Int) s p l c q k d s2 p2 l2 c2 q2 k2 d2 (w:World) (hs1:∀ W:World,Kp w W→Calls Tryz.prog 30 #[.agg #[.bool s,.slice p l c,.slice q k d]] W fun e w'=>e=.returned (.int .i64 S)∧Kp W w') (hs2:∀ W:World,Kp w W→Calls Tryz.prog 30 #[.agg #[.bool s2,.slice p2 l2 c2,.slice q2 k2 d2]] W fun e w'=>e=.returned (.int .i64 T9)∧Kp W w') (t2:T9<S):Calls Tryz.prog 33 #[.agg #[.bool s,.slice p l c,.slice q k d],.agg #[.bool s2,.slice p2 l2 c2,.slice q2 k2 d2]] w fun e w'=>e=.returned (.int .i64 1)∧Kp w w':=by
 go_enter Tryz.func33,Tryz.ntmps33
 go_wp2_with (first | (go_at_call_of 30 (Value.slice p l c);refine (hs1 _ ?q0).mono ?_;(case q0=>exact ((Kp.refl w).alloc _).alloc _);rintro e wa ⟨rfl,ga⟩;have ka:Kp w wa:=Kp.trans (((Kp.refl w).alloc _).alloc _) ga;have x0:=kkeep ga (b:=w.heap.size) (o:=0) (v:=.bool s) (by simp [go_sem]);have x1:=kkeep ga (b:=w.heap.size) (o:=1) (v:=.slice p l c) (by simp [go_sem]);have x2:=kkeep ga (b:=w.heap.size) (o:=2) (v:=.slice q k d) (by simp [go_sem]);have x3:=kkeep ga (b:=w.heap.size+1) (o:=0) (v:=.bool s2) (by simp [go_sem]);have x4:=kkeep ga (b:=w.heap.size+1) (o:=1) (v:=.slice p2 l2 c2) (by simp [go_sem]);have x5:=kkeep ga (b:=w.heap.size+1) (o:=2) (v:=.slice q2 k2 d2) (by simp [go_sem])) | (go_at_call_of 30 (Value.slice p2 l2 c2);refine (hs2 _ ?q0).mono ?_;(case q0=>exact ka);rintro e wb ⟨rfl,gb⟩;have kb:Kp w wb:=Kp.trans ka gb;have y0:=kkeep gb x0;have y1:=kkeep gb x1;have y2:=kkeep gb x2;have y3:=kkeep gb x3;have y4:=kkeep gb x4;have y5:=kkeep gb x5))
 exact BR (v:=.int .i64 1) (by simp [results,Tryz.results33,go_sem]) rfl ⟨rfl,kb⟩
theorem rcmpZ_ (S C9:Int) (P1 P2:World→Value→Prop) s p l c q k d s2 p2 l2 c2 q2 k2 d2 (w:World) (hk1:∀ (W W':World) (v:Value),Kp W W'→P1 W v→P1 W' v) (hs1:∀ W:World,Kp w W→Calls Tryz.prog 30 #[.agg #[.bool s,.slice p l c,.slice q k d]] W fun e w'=>e=.returned (.int .i64 S)∧Kp W w') (hs2:∀ W:World,Kp w W→Calls Tryz.prog 30 #[.agg #[.bool s2,.slice p2 l2 c2,.slice q2 k2 d2]] W fun e w'=>e=.returned (.int .i64 S)∧Kp W w') (hT1:∀ W:World,Kp w W→Calls Tryz.prog 70 #[.slice p l c,.slice q2 k2 d2] W fun e w'=>∃ v,e=.returned v∧P1 w' v∧Kp W w') (hT2:∀ W:World,Kp w W→Calls Tryz.prog 70 #[.slice p2 l2 c2,.slice q k d] W fun e w'=>∃ v,e=.returned v∧P2 w' v∧Kp W w') (hC:∀ (W:World) (u v:Value),Kp w W→P1 W u→P2 W v→Calls Tryz.prog 71 #[u,v] W fun e w'=>e=.returned (.int .i64 C9)∧Kp W w') (t3:(S == 0)=true):Calls Tryz.prog 33 #[.agg #[.bool s,.slice p l c,.slice q k d],.agg #[.bool s2,.slice p2 l2 c2,.slice q2 k2 d2]] w fun e w'=>e=.returned (.int .i64 0)∧Kp w w':=by
 cases s
 ·skip
  go_enter Tryz.func33,Tryz.ntmps33
  go_wp2_with (first | (go_at_call_of 30 (Value.slice p l c);refine (hs1 _ ?q0).mono ?_;(case q0=>exact ((Kp.refl w).alloc _).alloc _);rintro e wa ⟨rfl,ga⟩;have ka:Kp w wa:=Kp.trans (((Kp.refl w).alloc _).alloc _) ga;have x0:=kkeep ga (b:=w.heap.size) (o:=0) (v:=.bool false) (by simp [go_sem]);have x1:=kkeep ga (b:=w.heap.size) (o:=1) (v:=.slice p l c) (by simp [go_sem]);have x2:=kkeep ga (b:=w.heap.size) (o:=2) (v:=.slice q k d) (by simp [go_sem]);have x3:=kkeep ga (b:=w.heap.size+1) (o:=0) (v:=.bool s2) (by simp [go_sem]);have x4:=kkeep ga (b:=w.heap.size+1) (o:=1) (v:=.slice p2 l2 c2) (by simp [go_sem]);have x5:=kkeep ga (b:=w.heap.size+1) (o:=2) (v:=.slice q2 k2 d2) (by simp [go_sem])) | (go_at_call_of 30 (Value.slice p2 l2 c2);refine (hs2 _ ?q0).mono ?_;(case q0=>exact ka);rintro e wb ⟨rfl,gb⟩;have kb:Kp w wb:=Kp.trans ka gb;have y0:=kkeep gb x0;have y1:=kkeep gb x1;have y2:=kkeep gb x2;have y3:=kkeep gb x3;have y4:=kkeep gb x4;have y5:=kkeep gb x5))
  have dd0:True:=trivial
  have dw0:wb.drew.cell? ⟨w.heap.size,0,none⟩=some (.bool false):=y0
  have dw1:wb.drew.cell? ⟨w.heap.size,1,none⟩=some (.slice p l c):=y1
  have dw2:wb.drew.cell? ⟨w.heap.size,2,none⟩=some (.slice q k d):=y2
  have dw3:wb.drew.cell? ⟨w.heap.size+1,0,none⟩=some (.bool s2):=y3
  have dw4:wb.drew.cell? ⟨w.heap.size+1,1,none⟩=some (.slice p2 l2 c2):=y4
  have dw5:wb.drew.cell? ⟨w.heap.size+1,2,none⟩=some (.slice q2 k2 d2):=y5
  go_region_held3 (fun w'=>w'.cell? ⟨w.heap.size,0,none⟩=some (.bool false)∧w'.cell? ⟨w.heap.size,1,none⟩=some (.slice p l c)∧w'.cell? ⟨w.heap.size,2,none⟩=some (.slice q k d)∧w'.cell? ⟨w.heap.size+1,0,none⟩=some (.bool s2)∧w'.cell? ⟨w.heap.size+1,1,none⟩=some (.slice p2 l2 c2)∧w'.cell? ⟨w.heap.size+1,2,none⟩=some (.slice q2 k2 d2)) (first | (with_reducible exact ⟨dw0,dw1,dw2,dw3,dw4,dw5⟩) | (with_reducible exact ⟨y0,y1,y2,y3,y4,y5⟩) | (with_reducible exact ⟨a0,a1,a2,a3,a4,a5⟩) | (with_reducible exact ⟨b0,b1,b2,b3,b4,b5⟩) | (with_reducible exact ⟨e0,e1,e2,e3,e4,e5⟩)) (first | (go_at_call_of 70 (Value.slice p l c);refine (hT1 _ ?q0).mono ?_;(case q0=>exact kb.drew);rintro e wc ⟨u9,rfl,hu,gc⟩;have kc:Kp w wc:=Kp.trans kb.drew gc;have a0:=kkeep (Kp.trans (Kp.drew (Kp.refl _)) gc) y0;have a1:=kkeep (Kp.trans (Kp.drew (Kp.refl _)) gc) y1;have a2:=kkeep (Kp.trans (Kp.drew (Kp.refl _)) gc) y2;have a3:=kkeep (Kp.trans (Kp.drew (Kp.refl _)) gc) y3;have a4:=kkeep (Kp.trans (Kp.drew (Kp.refl _)) gc) y4;have a5:=kkeep (Kp.trans (Kp.drew (Kp.refl _)) gc) y5) | (go_at_call_of 70 (Value.slice p2 l2 c2);refine (hT2 _ ?q0).mono ?_;(case q0=>exact kc);rintro e wd ⟨v9,rfl,hv,gd⟩;have kd:Kp w wd:=Kp.trans kc gd;have hu2:=hk1 _ _ _ gd hu;have b0:=kkeep gd a0;have b1:=kkeep gd a1;have b2:=kkeep gd a2;have b3:=kkeep gd a3;have b4:=kkeep gd a4;have b5:=kkeep gd a5) | (go_at_call 71;refine (hC _ u9 v9 kd hu2 hv).mono ?_;rintro e we ⟨rfl,ge⟩;have ke:Kp w we:=Kp.trans kd ge;have e0:=kkeep ge b0;have e1:=kkeep ge b1;have e2:=kkeep ge b2;have e3:=kkeep ge b3;have e4:=kkeep ge b4;have e5:=kkeep ge b5))
  go_wp2
  exact BR (v:=.int .i64 0) (by simp [results,Tryz.results33,go_sem]) rfl ⟨rfl,ke⟩
 ·skip
  go_enter Tryz.func33,Tryz.ntmps33
  go_wp2_with (first | (go_at_call_of 30 (Value.slice p l c);refine (hs1 _ ?q0).mono ?_;(case q0=>exact ((Kp.refl w).alloc _).alloc _);rintro e wa ⟨rfl,ga⟩;have ka:Kp w wa:=Kp.trans (((Kp.refl w).alloc _).alloc _) ga;have x0:=kkeep ga (b:=w.heap.size) (o:=0) (v:=.bool true) (by simp [go_sem]);have x1:=kkeep ga (b:=w.heap.size) (o:=1) (v:=.slice p l c) (by simp [go_sem]);have x2:=kkeep ga (b:=w.heap.size) (o:=2) (v:=.slice q k d) (by simp [go_sem]);have x3:=kkeep ga (b:=w.heap.size+1) (o:=0) (v:=.bool s2) (by simp [go_sem]);have x4:=kkeep ga (b:=w.heap.size+1) (o:=1) (v:=.slice p2 l2 c2) (by simp [go_sem]);have x5:=kkeep ga (b:=w.heap.size+1) (o:=2) (v:=.slice q2 k2 d2) (by simp [go_sem])) | (go_at_call_of 30 (Value.slice p2 l2 c2);refine (hs2 _ ?q0).mono ?_;(case q0=>exact ka);rintro e wb ⟨rfl,gb⟩;have kb:Kp w wb:=Kp.trans ka gb;have y0:=kkeep gb x0;have y1:=kkeep gb x1;have y2:=kkeep gb x2;have y3:=kkeep gb x3;have y4:=kkeep gb x4;have y5:=kkeep gb x5))
  have dd0:True:=trivial
  have dw0:wb.drew.cell? ⟨w.heap.size,0,none⟩=some (.bool true):=y0
  have dw1:wb.drew.cell? ⟨w.heap.size,1,none⟩=some (.slice p l c):=y1
  have dw2:wb.drew.cell? ⟨w.heap.size,2,none⟩=some (.slice q k d):=y2
  have dw3:wb.drew.cell? ⟨w.heap.size+1,0,none⟩=some (.bool s2):=y3
  have dw4:wb.drew.cell? ⟨w.heap.size+1,1,none⟩=some (.slice p2 l2 c2):=y4
  have dw5:wb.drew.cell? ⟨w.heap.size+1,2,none⟩=some (.slice q2 k2 d2):=y5
  go_region_held3 (fun w'=>w'.cell? ⟨w.heap.size,0,none⟩=some (.bool true)∧w'.cell? ⟨w.heap.size,1,none⟩=some (.slice p l c)∧w'.cell? ⟨w.heap.size,2,none⟩=some (.slice q k d)∧w'.cell? ⟨w.heap.size+1,0,none⟩=some (.bool s2)∧w'.cell? ⟨w.heap.size+1,1,none⟩=some (.slice p2 l2 c2)∧w'.cell? ⟨w.heap.size+1,2,none⟩=some (.slice q2 k2 d2)) (first | (with_reducible exact ⟨dw0,dw1,dw2,dw3,dw4,dw5⟩) | (with_reducible exact ⟨y0,y1,y2,y3,y4,y5⟩) | (with_reducible exact ⟨a0,a1,a2,a3,a4,a5⟩) | (with_reducible exact ⟨b0,b1,b2,b3,b4,b5⟩) | (with_reducible exact ⟨e0,e1,e2,e3,e4,e5⟩)) (first | (go_at_call_of 70 (Value.slice p l c);refine (hT1 _ ?q0).mono ?_;(case q0=>exact kb.drew);rintro e wc ⟨u9,rfl,hu,gc⟩;have kc:Kp w wc:=Kp.trans kb.drew gc;have a0:=kkeep (Kp.trans (Kp.drew (Kp.refl _)) gc) y0;have a1:=kkeep (Kp.trans (Kp.drew (Kp.refl _)) gc) y1;have a2:=kkeep (Kp.trans (Kp.drew (Kp.refl _)) gc) y2;have a3:=kkeep (Kp.trans (Kp.drew (Kp.refl _)) gc) y3;have a4:=kkeep (Kp.trans (Kp.drew (Kp.refl _)) gc) y4;have a5:=kkeep (Kp.trans (Kp.drew (Kp.refl _)) gc) y5) | (go_at_call_of 70 (Value.slice p2 l2 c2);refine (hT2 _ ?q0).mono ?_;(case q0=>exact kc);rintro e wd ⟨v9,rfl,hv,gd⟩;have kd:Kp w wd:=Kp.trans kc gd;have hu2:=hk1 _ _ _ gd hu;have b0:=kkeep gd a0;have b1:=kkeep gd a1;have b2:=kkeep gd a2;have b3:=kkeep gd a3;have b4:=kkeep gd a4;have b5:=kkeep gd a5) | (go_at_call 71;refine (hC _ u9 v9 kd hu2 hv).mono ?_;rintro e we ⟨rfl,ge⟩;have ke:Kp w we:=Kp.trans kd ge;have e0:=kkeep ge b0;have e1:=kkeep ge b1;have e2:=kkeep ge b2;have e3:=kkeep ge b3;have e4:=kkeep ge b4;have e5:=kkeep ge b5))
  go_wp2
  exact BR (v:=.int .i64 0) (by simp [results,Tryz.results33,go_sem]) rfl ⟨rfl,ke⟩
theorem rcmpP_ (S C9:Int) (P1 P2:World→Value→Prop) (p:Option Addr) (l c:Nat) (q:Option Addr) (k d:Nat) s2 p2 l2 c2 q2 k2 d2 (w:World) (hk1:∀ (W W':World) (v:Value),Kp W W'→P1 W v→P1 W' v) (hs1:∀ W:World,Kp w W→Calls Tryz.prog 30 #[.agg #[.bool false,.slice p l c,.slice q k d]] W fun e w'=>e=.returned (.int .i64 S)∧Kp W w') (hs2:∀ W:World,Kp w W→Calls Tryz.prog 30 #[.agg #[.bool s2,.slice p2 l2 c2,.slice q2 k2 d2]] W fun e w'=>e=.returned (.int .i64 S)∧Kp W w') (hT1:∀ W:World,Kp w W→Calls Tryz.prog 70 #[.slice p l c,.slice q2 k2 d2] W fun e w'=>∃ v,e=.returned v∧P1 w' v∧Kp W w') (hT2:∀ W:World,Kp w W→Calls Tryz.prog 70 #[.slice p2 l2 c2,.slice q k d] W fun e w'=>∃ v,e=.returned v∧P2 w' v∧Kp W w') (hC:∀ (W:World) (u v:Value),Kp w W→P1 W u→P2 W v→Calls Tryz.prog 71 #[u,v] W fun e w'=>e=.returned (.int .i64 C9)∧Kp W w') (t3:(S == 0)=false):Calls Tryz.prog 33 #[.agg #[.bool false,.slice p l c,.slice q k d],.agg #[.bool s2,.slice p2 l2 c2,.slice q2 k2 d2]] w fun e w'=>e=.returned (.int .i64 C9)∧Kp w w':=by
 go_enter Tryz.func33,Tryz.ntmps33
 go_wp2_with (first | (go_at_call_of 30 (Value.slice p l c);refine (hs1 _ ?q0).mono ?_;(case q0=>exact ((Kp.refl w).alloc _).alloc _);rintro e wa ⟨rfl,ga⟩;have ka:Kp w wa:=Kp.trans (((Kp.refl w).alloc _).alloc _) ga;have x0:=kkeep ga (b:=w.heap.size) (o:=0) (v:=.bool false) (by simp [go_sem]);have x1:=kkeep ga (b:=w.heap.size) (o:=1) (v:=.slice p l c) (by simp [go_sem]);have x2:=kkeep ga (b:=w.heap.size) (o:=2) (v:=.slice q k d) (by simp [go_sem]);have x3:=kkeep ga (b:=w.heap.size+1) (o:=0) (v:=.bool s2) (by simp [go_sem]);have x4:=kkeep ga (b:=w.heap.size+1) (o:=1) (v:=.slice p2 l2 c2) (by simp [go_sem]);have x5:=kkeep ga (b:=w.heap.size+1) (o:=2) (v:=.slice q2 k2 d2) (by simp [go_sem])) | (go_at_call_of 30 (Value.slice p2 l2 c2);refine (hs2 _ ?q0).mono ?_;(case q0=>exact ka);rintro e wb ⟨rfl,gb⟩;have kb:Kp w wb:=Kp.trans ka gb;have y0:=kkeep gb x0;have y1:=kkeep gb x1;have y2:=kkeep gb x2;have y3:=kkeep gb x3;have y4:=kkeep gb x4;have y5:=kkeep gb x5))
 have dd0:True:=trivial
 have dw0:wb.drew.cell? ⟨w.heap.size,0,none⟩=some (.bool false):=y0
 have dw1:wb.drew.cell? ⟨w.heap.size,1,none⟩=some (.slice p l c):=y1
 have dw2:wb.drew.cell? ⟨w.heap.size,2,none⟩=some (.slice q k d):=y2
 have dw3:wb.drew.cell? ⟨w.heap.size+1,0,none⟩=some (.bool s2):=y3
 have dw4:wb.drew.cell? ⟨w.heap.size+1,1,none⟩=some (.slice p2 l2 c2):=y4
 have dw5:wb.drew.cell? ⟨w.heap.size+1,2,none⟩=some (.slice q2 k2 d2):=y5
 go_region_held3 (fun w'=>w'.cell? ⟨w.heap.size,0,none⟩=some (.bool false)∧w'.cell? ⟨w.heap.size,1,none⟩=some (.slice p l c)∧w'.cell? ⟨w.heap.size,2,none⟩=some (.slice q k d)∧w'.cell? ⟨w.heap.size+1,0,none⟩=some (.bool s2)∧w'.cell? ⟨w.heap.size+1,1,none⟩=some (.slice p2 l2 c2)∧w'.cell? ⟨w.heap.size+1,2,none⟩=some (.slice q2 k2 d2)) (first | (with_reducible exact ⟨dw0,dw1,dw2,dw3,dw4,dw5⟩) | (with_reducible exact ⟨y0,y1,y2,y3,y4,y5⟩) | (with_reducible exact ⟨a0,a1,a2,a3,a4,a5⟩) | (with_reducible exact ⟨b0,b1,b2,b3,b4,b5⟩) | (with_reducible exact ⟨e0,e1,e2,e3,e4,e5⟩)) (first | (go_at_call_of 70 (Value.slice p l c);refine (hT1 _ ?q0).mono ?_;(case q0=>exact kb.drew);rintro e wc ⟨u9,rfl,hu,gc⟩;have kc:Kp w wc:=Kp.trans kb.drew gc;have a0:=kkeep (Kp.trans (Kp.drew (Kp.refl _)) gc) y0;have a1:=kkeep (Kp.trans (Kp.drew (Kp.refl _)) gc) y1;have a2:=kkeep (Kp.trans (Kp.drew (Kp.refl _)) gc) y2;have a3:=kkeep (Kp.trans (Kp.drew (Kp.refl _)) gc) y3;have a4:=kkeep (Kp.trans (Kp.drew (Kp.refl _)) gc) y4;have a5:=kkeep (Kp.trans (Kp.drew (Kp.refl _)) gc) y5) | (go_at_call_of 70 (Value.slice p2 l2 c2);refine (hT2 _ ?q0).mono ?_;(case q0=>exact kc);rintro e wd ⟨v9,rfl,hv,gd⟩;have kd:Kp w wd:=Kp.trans kc gd;have hu2:=hk1 _ _ _ gd hu;have b0:=kkeep gd a0;have b1:=kkeep gd a1;have b2:=kkeep gd a2;have b3:=kkeep gd a3;have b4:=kkeep gd a4;have b5:=kkeep gd a5) | (go_at_call 71;refine (hC _ u9 v9 kd hu2 hv).mono ?_;rintro e we ⟨rfl,ge⟩;have ke:Kp w we:=Kp.trans kd ge;have e0:=kkeep ge b0;have e1:=kkeep ge b1;have e2:=kkeep ge b2;have e3:=kkeep ge b3;have e4:=kkeep ge b4;have e5:=kkeep ge b5))
 go_wp2
 exact BR (v:=.int .i64 C9) (by simp [results,Tryz.results33,go_sem]) rfl ⟨rfl,ke⟩
theorem rcmpN_ (S C9:Int) (P1 P2:World→Value→Prop) (p:Option Addr) (l c:Nat) (q:Option Addr) (k d:Nat) s2 p2 l2 c2 q2 k2 d2 (w:World) (hk1:∀ (W W':World) (v:Value),Kp W W'→P1 W v→P1 W' v) (hs1:∀ W:World,Kp w W→Calls Tryz.prog 30 #[.agg #[.bool true,.slice p l c,.slice q k d]] W fun e w'=>e=.returned (.int .i64 S)∧Kp W w') (hs2:∀ W:World,Kp w W→Calls Tryz.prog 30 #[.agg #[.bool s2,.slice p2 l2 c2,.slice q2 k2 d2]] W fun e w'=>e=.returned (.int .i64 S)∧Kp W w') (hT1:∀ W:World,Kp w W→Calls Tryz.prog 70 #[.slice p l c,.slice q2 k2 d2] W fun e w'=>∃ v,e=.returned v∧P1 w' v∧Kp W w') (hT2:∀ W:World,Kp w W→Calls Tryz.prog 70 #[.slice p2 l2 c2,.slice q k d] W fun e w'=>∃ v,e=.returned v∧P2 w' v∧Kp W w') (hC:∀ (W:World) (u v:Value),Kp w W→P1 W u→P2 W v→Calls Tryz.prog 71 #[u,v] W fun e w'=>e=.returned (.int .i64 C9)∧Kp W w') (t3:(S == 0)=false) (t4:IntKind.i64.wrap (-C9) = -C9):Calls Tryz.prog 33 #[.agg #[.bool true,.slice p l c,.slice q k d],.agg #[.bool s2,.slice p2 l2 c2,.slice q2 k2 d2]] w fun e w'=>e=.returned (.int .i64 (-C9))∧Kp w w':=by
 go_enter Tryz.func33,Tryz.ntmps33
 go_wp2_with (first | (go_at_call_of 30 (Value.slice p l c);refine (hs1 _ ?q0).mono ?_;(case q0=>exact ((Kp.refl w).alloc _).alloc _);rintro e wa ⟨rfl,ga⟩;have ka:Kp w wa:=Kp.trans (((Kp.refl w).alloc _).alloc _) ga;have x0:=kkeep ga (b:=w.heap.size) (o:=0) (v:=.bool true) (by simp [go_sem]);have x1:=kkeep ga (b:=w.heap.size) (o:=1) (v:=.slice p l c) (by simp [go_sem]);have x2:=kkeep ga (b:=w.heap.size) (o:=2) (v:=.slice q k d) (by simp [go_sem]);have x3:=kkeep ga (b:=w.heap.size+1) (o:=0) (v:=.bool s2) (by simp [go_sem]);have x4:=kkeep ga (b:=w.heap.size+1) (o:=1) (v:=.slice p2 l2 c2) (by simp [go_sem]);have x5:=kkeep ga (b:=w.heap.size+1) (o:=2) (v:=.slice q2 k2 d2) (by simp [go_sem])) | (go_at_call_of 30 (Value.slice p2 l2 c2);refine (hs2 _ ?q0).mono ?_;(case q0=>exact ka);rintro e wb ⟨rfl,gb⟩;have kb:Kp w wb:=Kp.trans ka gb;have y0:=kkeep gb x0;have y1:=kkeep gb x1;have y2:=kkeep gb x2;have y3:=kkeep gb x3;have y4:=kkeep gb x4;have y5:=kkeep gb x5))
 have dd0:True:=trivial
 have dw0:wb.drew.cell? ⟨w.heap.size,0,none⟩=some (.bool true):=y0
 have dw1:wb.drew.cell? ⟨w.heap.size,1,none⟩=some (.slice p l c):=y1
 have dw2:wb.drew.cell? ⟨w.heap.size,2,none⟩=some (.slice q k d):=y2
 have dw3:wb.drew.cell? ⟨w.heap.size+1,0,none⟩=some (.bool s2):=y3
 have dw4:wb.drew.cell? ⟨w.heap.size+1,1,none⟩=some (.slice p2 l2 c2):=y4
 have dw5:wb.drew.cell? ⟨w.heap.size+1,2,none⟩=some (.slice q2 k2 d2):=y5
 go_region_held3 (fun w'=>w'.cell? ⟨w.heap.size,0,none⟩=some (.bool true)∧w'.cell? ⟨w.heap.size,1,none⟩=some (.slice p l c)∧w'.cell? ⟨w.heap.size,2,none⟩=some (.slice q k d)∧w'.cell? ⟨w.heap.size+1,0,none⟩=some (.bool s2)∧w'.cell? ⟨w.heap.size+1,1,none⟩=some (.slice p2 l2 c2)∧w'.cell? ⟨w.heap.size+1,2,none⟩=some (.slice q2 k2 d2)) (first | (with_reducible exact ⟨dw0,dw1,dw2,dw3,dw4,dw5⟩) | (with_reducible exact ⟨y0,y1,y2,y3,y4,y5⟩) | (with_reducible exact ⟨a0,a1,a2,a3,a4,a5⟩) | (with_reducible exact ⟨b0,b1,b2,b3,b4,b5⟩) | (with_reducible exact ⟨e0,e1,e2,e3,e4,e5⟩)) (first | (go_at_call_of 70 (Value.slice p l c);refine (hT1 _ ?q0).mono ?_;(case q0=>exact kb.drew);rintro e wc ⟨u9,rfl,hu,gc⟩;have kc:Kp w wc:=Kp.trans kb.drew gc;have a0:=kkeep (Kp.trans (Kp.drew (Kp.refl _)) gc) y0;have a1:=kkeep (Kp.trans (Kp.drew (Kp.refl _)) gc) y1;have a2:=kkeep (Kp.trans (Kp.drew (Kp.refl _)) gc) y2;have a3:=kkeep (Kp.trans (Kp.drew (Kp.refl _)) gc) y3;have a4:=kkeep (Kp.trans (Kp.drew (Kp.refl _)) gc) y4;have a5:=kkeep (Kp.trans (Kp.drew (Kp.refl _)) gc) y5) | (go_at_call_of 70 (Value.slice p2 l2 c2);refine (hT2 _ ?q0).mono ?_;(case q0=>exact kc);rintro e wd ⟨v9,rfl,hv,gd⟩;have kd:Kp w wd:=Kp.trans kc gd;have hu2:=hk1 _ _ _ gd hu;have b0:=kkeep gd a0;have b1:=kkeep gd a1;have b2:=kkeep gd a2;have b3:=kkeep gd a3;have b4:=kkeep gd a4;have b5:=kkeep gd a5) | (go_at_call 71;refine (hC _ u9 v9 kd hu2 hv).mono ?_;rintro e we ⟨rfl,ge⟩;have ke:Kp w we:=Kp.trans kd ge;have e0:=kkeep ge b0;have e1:=kkeep ge b1;have e2:=kkeep ge b2;have e3:=kkeep ge b3;have e4:=kkeep ge b4;have e5:=kkeep ge b5))
 go_wp2
 exact BR (v:=.int .i64 (-C9)) (by simp [results,Tryz.results33,go_sem]) rfl ⟨rfl,ke⟩
theorem timesR (v1 v2:Value) (a b:Nat) (w:World) (h1:Ls w v1 (dig a)) (h2:Ls w v2 (dig b)) (l1:len32 a≤16384) (l2:len32 b≤16384) :
  Calls Tryz.prog 70 #[v1,v2] w fun e w'=>∃ p c,e=.returned (.slice p (dig (a*b)).length c)∧Arr w' p (dig (a*b))∧(dig (a*b)).length≤c∧Kp w w':=by
 obtain ⟨p,c,rfl,hA,hc⟩:=h1
 obtain ⟨q,d,rfl,hB,hd⟩:=h2
 have h:=rtimes_ p q c d (dig a) (dig b) w hA hB (Wd_dig a) (Wd_dig b) (by change len32 a≤_;omega) (by change len32 b≤_;omega)
 rw [val_dig,val_dig] at h
 refine h.mono ?_
 rintro e w' ⟨v,h1,h2,h3⟩
 obtain ⟨p,c,rfl,h4,h5⟩:=h2.arr
 exact ⟨p,c,h1,h4,h5,h3⟩
theorem plusR (v1 v2:Value) (a b:Nat) (w:World) (h1:Ls w v1 (dig a)) (h2:Ls w v2 (dig b)) (l1:len32 a≤32768) (l2:len32 b≤32768) :
  Calls Tryz.prog 104 #[v1,v2] w fun e w'=>∃ p c,e=.returned (.slice p (dig (a+b)).length c)∧Arr w' p (dig (a+b))∧(dig (a+b)).length≤c∧Kp w w':=by
 obtain ⟨p,c,rfl,hA,hc⟩:=h1
 obtain ⟨q,d,rfl,hB,hd⟩:=h2
 have h:=rplus_ p q c d (dig a) (dig b) w hA hB (Wd_dig a) (Wd_dig b) (by change len32 a<_;omega) (by change len32 b<_;omega)
 refine h.mono ?_
 rintro e w' ⟨v,L,h1,h2,h3,h4,_,h5⟩
 rw [val_dig,val_dig] at h4
 rw [nz_dig L h3,h4] at h2
 obtain ⟨p,c,rfl,h6,h7⟩:=h2.arr
 exact ⟨p,c,h1,h6,h7,h5⟩
theorem minusR (v1 v2:Value) (a b:Nat) (w:World) (h1:Ls w v1 (dig a)) (h2:Ls w v2 (dig b)) (l1:len32 a≤32768) (hle:b≤a) :
  Calls Tryz.prog 105 #[v1,v2] w fun e w'=>∃ p c,e=.returned (.slice p (dig (a - b)).length c)∧Arr w' p (dig (a - b))∧(dig (a - b)).length≤c∧Kp w w':=by
 obtain ⟨p,c,rfl,hA,hc⟩:=h1
 obtain ⟨q,d,rfl,hB,hd⟩:=h2
 have h:=rminus_ p q c d (dig a) (dig b) w hA hB (Wd_dig a) (Wd_dig b) (by change len32 a<_;omega) (by exact len32_mono hle) (by rw [val_dig,val_dig];exact hle)
 rw [val_dig,val_dig] at h
 refine h.mono ?_
 rintro e w' ⟨v,h1,h2,h3⟩
 obtain ⟨p,c,rfl,h4,h5⟩:=h2.arr
 exact ⟨p,c,h1,h4,h5,h3⟩

def rvI (s:Bool) (a:Nat):Int:=if s then -(a:Int) else a
def cmI (x y:Int):Int:=if x<y then -1 else if y<x then 1 else 0
end Go.Proofs.YtcfnialfpblfmaaGreatDoor
