import Derived.Test.YtmpjcknaelgnoaaGreatDoorKNF
set_option maxHeartbeats 1000000
set_option maxRecDepth 20000
namespace Go.Proofs.YtmpjcknaelgnoaaGreatDoor
open Go.RowKit
theorem sum_ge (p q:Option Addr) (c d:Nat) (xs ys:List Int) (w:World) (hx:Arr w p xs) (hy:Arr w q ys) (hwx:Wd xs) (hwy:Wd ys) (lx:xs.length<1099511627775) (hl:ys.length≤xs.length) :
  Calls Tryz.prog 245 #[.slice p xs.length c,.slice q ys.length d] w fun e w'=>∃ v,e=.returned v∧Own w' w.heap.size v (dig (val xs+val ys))∧Kp w w':=by
 obtain ⟨N,hN⟩:∃ N,N=xs.length:=⟨_,rfl⟩
 obtain ⟨M,hM⟩:∃ M,M=ys.length:=⟨_,rfl⟩
 have hNM:M≤N:=by omega
 have hmk:∀ w:World,(Instr.makeSlice 55 (.int .i64 ((N:Int)+1)) (.int .i64 ((N:Int)+1))).run Tryz.prog w=.ok (.slice (some ⟨w.heap.size,0,none⟩) (N+1) (N+1)) (w.alloc (.cells (madeCells #[.int .u32 0] (N+1)) 120)):=by
  have:=mk32 (N+1) (by omega)
  simpa using this
 have hk1:Kp w (w.alloc (.cells (madeCells #[.int .u32 0] (N+1)) 120)):=(Kp.refl w).alloc _
 obtain ⟨w2,hcp,hr2,hkw⟩:=copy32 (w.alloc (.cells (madeCells #[.int .u32 0] (N+1)) 120)) w.heap.size (N+1) c p xs _ (World.rowIs_made w (.int .u32 0) (N+1) 120) (hx.grown hk1) (by omega)
 have hk2:Kp w w2:=hkw w (Nat.le_refl _) hk1
 have hrz:Rw w2 w.heap.size (N+1) (xs ++ [0]):=World.rowIs.congr hr2 (fun j _=>by
  rw [getD_end]
  by_cases e:j<xs.length
  ·rw [if_pos e,if_pos e]
  ·rw [if_neg e,if_neg e])
 have hwz:Wd (xs ++ [0]):=hwx.append (Wd.one (by omega))
 have hvz:=val_zero_end xs
 have hgz:∀ j,j<N→(xs ++ [0]).getD j 0=xs.getD j 0:=fun j hj=>by rw [getD_end,if_pos (by omega)]
 have hlz:(xs ++ [0]).length=N+1:=by simp;omega
 obtain ⟨zs0,hz0⟩:∃ zs0,zs0=xs ++ [0]:=⟨_,rfl⟩
 rw [← hz0] at hrz hwz hvz hgz hlz
 rw [← hN] at hcp ⊢
 rw [← hM]
 have t0:¬ ((N:Int)<(M:Int)):=by omega
 have hb1:N<1099511627775:=by omega
 have HX:Hid (Arr w p xs):=hx
 have HY:Hid (Arr w q ys):=hy
 have HW:Hid (Wd xs∧Wd ys):=⟨hwx,hwy⟩
 have HN:Hid (N=xs.length∧M=ys.length∧M≤N):=⟨hN,hM,hNM⟩
 obtain ⟨g,hg⟩:∃ g,g=w.heap.size:=⟨_,rfl⟩
 rw [← hg] at hrz
 have HG:Hid (g=w.heap.size):=hg
 clear hx hy hwx hwy lx hl hN hM hkw hr2 hk1 hz0
 go_enter Tryz.func245,Tryz.ntmps245
 go_wp2
 rw [← hg]
 clear hmk hcp
 go_loopw [6,25] (fun cc i wr=>∃ (k C:Nat) (zs:List Int),cc=.int .u32 C∧i=.int .i64 k∧k≤M∧Rw wr g (N+1) zs∧zs.length=N+1∧Wd zs∧C≤1∧val zs+C*4294967296 ^ k=val xs+val (ys.take k)∧(∀ j,k≤j→j<N→zs.getD j 0=xs.getD j 0)∧Kp w wr) (fun _ i _=>M - (intOf i).toNat)
 case atStart=>exact ⟨0,0,zs0,rfl,rfl,Nat.zero_le _,hrz,hlz,hwz,by omega,by simp [val,hvz],fun j _ hj=>hgz j hj,hk2⟩
 case round =>
  clear hrz hwz hvz hgz hlz hk2 hg t0
  obtain ⟨k,C,zs,rfl,rfl,hk,hrow,hzl,hwz,hC,hv,hsam,hkp⟩:=hrel
  obtain ⟨hN,hM,hNM⟩:=HN.out
  obtain ⟨hwx,hwy⟩:=HW.out
  by_cases ck:k<M
  ·obtain ⟨b,off,rfl,hc⟩:=HX.out.at (k:=k) (by omega)
   obtain ⟨b',off',rfl,hc'⟩:=HY.out.at (k:=k) (by omega)
   have e1:=kkeep hkp (hc k (by omega))
   have e2:=kkeep hkp (hc' k (by omega))
   have hbg:b≠g:=by have:=cell_lt (hc k (by omega));have:=HG.out;omega
   have hbg':b'≠g:=by have:=cell_lt (hc' k (by omega));have:=HG.out;omega
   have e3:=World.rowIs.cell hrow (i:=k) (by omega)
   have e4:=World.rowIs.frozen hrow k
   have wx:=hwx k
   have wy:=hwy k
   have hzX:=hsam k (Nat.le_refl _) (by omega)
   obtain ⟨S,hS⟩:∃ S:Nat,S=(xs.getD k 0).toNat+(ys.getD k 0).toNat+C:=⟨_,rfl⟩
   have hst:=sum_step zs k C S _ (xs.getD k 0) (ys.getD k 0) (by omega) hzX hS hv
   rw [Nat.add_assoc,← val_take_succ] at hst
   obtain ⟨X,hX⟩:∃ X,X=xs.getD k 0:=⟨_,rfl⟩
   obtain ⟨Y,hY⟩:∃ Y,Y=ys.getD k 0:=⟨_,rfl⟩
   rw [← hX] at e1 wx hS
   rw [← hY] at e2 wy hS
   have had:=add32_ X Y (C:Int) wx wy (by omega)
   have f1:(X+Y+(C:Int)) % 4294967296=((S % 4294967296:Nat):Int):=by omega
   have f2:(X+Y+(C:Int)) / 4294967296=((S / 4294967296:Nat):Int):=by omega
   rw [f1,f2] at had
   have hC':S / 4294967296≤1:=by omega
   obtain ⟨Z,hZ⟩:∃ Z:Int,Z=((S % 4294967296:Nat):Int):=⟨_,rfl⟩
   obtain ⟨C',hC2⟩:∃ C':Nat,C'=S / 4294967296:=⟨_,rfl⟩
   rw [← hZ] at had hst
   rw [← hC2] at had hst hC'
   have hsam2:∀ j,k+1≤j→j<N→(zs.set k Z).getD j 0=xs.getD j 0:=fun j h1 h2=>by
    rw [← hsam j (by omega) h2];simp [List.getD,show ¬ k=j from by omega]
   have hw2:Wd (zs.set k Z):=hwz.set k Z (by omega)
   have hl2:(zs.set k Z).length=N+1:=by rw [List.length_set];exact hzl
   have hrs:∀ w':World,Kp wr w'→Rw (w'.setCell ⟨g,k,none⟩ (.int .u32 Z)) g (N+1) (zs.set k Z):=fun w' h=>(hrow.grown h).set k Z (by omega)
   have hkk:k<N+1:=by omega
   have i0:(0:Int)≤(k:Int):=by omega
   have i1:(k:Int)<(N:Int):=by omega
   have i2:(k:Int)<(M:Int):=by omega
   have i3:(k:Int)<(N:Int)+1:=by omega
   have hgw:w.heap.size≤g:=by rw [HG.out];exact Nat.le_refl _
   clear hc hc' HX HY HW HN HG hN hM hX hY hS hv hZ hC2 wx wy hwz hC hwx hwy f1 f2 hzX hsam hzl hrow
   go_wp2
   go_region_held3 (fun w'=>w'.cell? ⟨b,off+k,none⟩=some (.int .u32 X)∧w'.cell? ⟨b',off'+k,none⟩=some (.int .u32 Y)) (first | (exact ⟨e1,e2⟩) | (exact ⟨(CF _ _ _ _ (Ne.symm hbg)).trans e1,(CF _ _ _ _ (Ne.symm hbg')).trans e2⟩)) (first | (go_at_call 266;refine (had _).mono ?_;rintro e w' ⟨rfl,rfl⟩))
   have hR:Rw (wr.setCell ⟨g,k,none⟩ (.int .u32 Z)).drew g (N+1) (zs.set k Z):=hrs wr (Kp.refl _)
   have hK:Kp w (wr.setCell ⟨g,k,none⟩ (.int .u32 Z)).drew:=(hkp.setCell hgw _).drew
   clear hrs hkp e1 e2 e3 e4 had
   go_wp2
   exact ⟨⟨k+1,C',zs.set k Z,rfl,by go_num,by omega,hR,hl2,hw2,hC',hst,hsam2,hK⟩,by simp [intOf];omega⟩
  ·have hkM:k=M:=by omega
   subst hkM
   rw [hM,List.take_length,← hM] at hv
   have i2:¬ ((k:Int)<(k:Int)):=by omega
   have HV:Hid (val zs+C*4294967296 ^ k=val xs+val ys):=hv
   clear hv HX HY hsam hk ck hN hM hNM hwx hwy
   go_wp2
   go_loopw [6,8] (fun cc i wq=>∃ (j C:Nat) (zs:List Int),cc=.int .u32 C∧i=.int .i64 j∧Rw wq g (N+1) zs∧zs.length=N+1∧Wd zs∧C≤1∧val zs+C*4294967296 ^ j=val xs+val ys∧Kp w wq∧j≤N+1) (fun _ i _=>N+2 - (intOf i).toNat)
   case atStart=>exact ⟨k,C,zs,rfl,rfl,hrow,hzl,hwz,hC,HV.out,hkp,by have:=HN.out.2.2;omega⟩
   case round =>
    clear hrow hzl hwz hC HV hkp
    obtain ⟨j,C,zs,rfl,rfl,hrow,hzl,hwz,hC,hv,hkp,hj⟩:=hrel
    obtain ⟨hN,hM,hNM⟩:=HN.out
    obtain ⟨hwx,hwy⟩:=HW.out
    rcases (by omega:C=0∨C=1) with rfl | rfl
    ·rw [Nat.zero_mul,Nat.add_zero] at hv
     have hA:=hrow.arr (N+1) (Nat.le_refl _) (by omega)
     rw [List.take_of_length_le (by omega)] at hA
     have htr:=trim_ (some ⟨g,0,none⟩) (N+1) zs wr hA (by omega) (by omega)
     have hO:Own wr w.heap.size (.slice (some ⟨g,0,none⟩) (tl zs) (N+1)) (dig (val xs+val ys)):=by
      have h1:=Own.of_row (base:=w.heap.size) (k:=tl zs) hrow (by rw [HG.out];exact Nat.le_refl _) (by have:=tl_le zs;omega) hzl (by unfold maxLen;omega)
      have h2:zs.take (tl zs)=dig (val xs+val ys):=by rw [← hv,← nz_dig zs hwz];rfl
      rw [h2] at h1
      exact h1
     rw [hzl] at htr
     obtain ⟨T,hT⟩:∃ T,T=tl zs:=⟨_,rfl⟩
     rw [← hT] at htr hO
     clear hA hrow hzl hwz hC hv hj hT HW HN HG hN hM hNM hwx hwy i2
     go_wp2_with (first | (go_at_call 241;refine htr.mono ?_;rintro e w' ⟨rfl,rfl⟩))
     exact BR (v:=.slice (some ⟨g,0,none⟩) T (N+1)) (by simp [results,Tryz.results245,go_sem] <;> simp only [*]) rfl ⟨_,rfl,hO,hkp⟩
    ·have hjN:j≤N:=by
      have:=sum_room xs ys zs j hwx hwy (by omega) hv
      omega
     have e3:=World.rowIs.cell hrow (i:=j) (by omega)
     have e4:=World.rowIs.frozen hrow j
     have wz:=hwz j
     obtain ⟨Z0,hZ0⟩:∃ Z0,Z0=zs.getD j 0:=⟨_,rfl⟩
     obtain ⟨S,hS⟩:∃ S:Nat,S=Z0.toNat+(0:Int).toNat+1:=⟨_,rfl⟩
     have hst:=sum_step zs j 1 S _ Z0 0 (by omega) hZ0.symm hS hv
     rw [show (0:Int).toNat=0 from rfl,Nat.zero_mul,Nat.add_zero] at hst
     rw [← hZ0] at wz
     rw [show (0:Int).toNat=0 from rfl] at hS
     have had:=add32_ Z0 0 1 wz (by omega) (by omega)
     have f1:(Z0+0+1) % 4294967296=((S % 4294967296:Nat):Int):=by omega
     have f2:(Z0+0+1) / 4294967296=((S / 4294967296:Nat):Int):=by omega
     rw [f1,f2] at had
     have hC':S / 4294967296≤1:=by omega
     obtain ⟨Z,hZ⟩:∃ Z:Int,Z=((S % 4294967296:Nat):Int):=⟨_,rfl⟩
     obtain ⟨C',hC2⟩:∃ C':Nat,C'=S / 4294967296:=⟨_,rfl⟩
     rw [← hZ] at had hst
     rw [← hC2] at had hst hC'
     have hw2:Wd (zs.set j Z):=hwz.set j Z (by omega)
     have hl2:(zs.set j Z).length=N+1:=by rw [List.length_set];exact hzl
     have hR:Rw (wr.setCell ⟨g,j,none⟩ (.int .u32 Z)) g (N+1) (zs.set j Z):=hrow.set j Z (by omega)
     have hK:Kp w (wr.setCell ⟨g,j,none⟩ (.int .u32 Z)):=hkp.setCell (by rw [HG.out];exact Nat.le_refl _) _
     have e3':wr.cell? ⟨g,j,none⟩=some (.int .u32 Z0):=by rw [hZ0];exact e3
     have i0:(0:Int)≤(j:Int):=by omega
     have i3:(j:Int)<(N:Int)+1:=by omega
     clear e3 hrow hzl hwz hC hv hS hZ hC2 hZ0 wz f1 f2 HW HN HG hN hM hNM hwx hwy i2 hkp
     go_wp2_with (first | (go_at_call 266;refine (had _).mono ?_;rintro e w' ⟨rfl,rfl⟩))
     exact ⟨⟨j+1,C',zs.set j Z,rfl,by go_num,hR,hl2,hw2,hC',hst,hK,by omega⟩,by simp [intOf];omega⟩
theorem sum_lt (p q:Option Addr) (c d:Nat) (xs ys:List Int) (w:World) (hx:Arr w p xs) (hy:Arr w q ys) (hwx:Wd xs) (hwy:Wd ys) (lx:xs.length<1099511627775) (hl:ys.length<xs.length) :
  Calls Tryz.prog 245 #[.slice q ys.length d,.slice p xs.length c] w fun e w'=>∃ v,e=.returned v∧Own w' w.heap.size v (dig (val xs+val ys))∧Kp w w':=by
 obtain ⟨N,hN⟩:∃ N,N=xs.length:=⟨_,rfl⟩
 obtain ⟨M,hM⟩:∃ M,M=ys.length:=⟨_,rfl⟩
 have hNM:M≤N:=by omega
 have hmk:∀ w:World,(Instr.makeSlice 55 (.int .i64 ((N:Int)+1)) (.int .i64 ((N:Int)+1))).run Tryz.prog w=.ok (.slice (some ⟨w.heap.size,0,none⟩) (N+1) (N+1)) (w.alloc (.cells (madeCells #[.int .u32 0] (N+1)) 120)):=by
  have:=mk32 (N+1) (by omega)
  simpa using this
 have hk1:Kp w (w.alloc (.cells (madeCells #[.int .u32 0] (N+1)) 120)):=(Kp.refl w).alloc _
 obtain ⟨w2,hcp,hr2,hkw⟩:=copy32 (w.alloc (.cells (madeCells #[.int .u32 0] (N+1)) 120)) w.heap.size (N+1) c p xs _ (World.rowIs_made w (.int .u32 0) (N+1) 120) (hx.grown hk1) (by omega)
 have hk2:Kp w w2:=hkw w (Nat.le_refl _) hk1
 have hrz:Rw w2 w.heap.size (N+1) (xs ++ [0]):=World.rowIs.congr hr2 (fun j _=>by
  rw [getD_end]
  by_cases e:j<xs.length
  ·rw [if_pos e,if_pos e]
  ·rw [if_neg e,if_neg e])
 have hwz:Wd (xs ++ [0]):=hwx.append (Wd.one (by omega))
 have hvz:=val_zero_end xs
 have hgz:∀ j,j<N→(xs ++ [0]).getD j 0=xs.getD j 0:=fun j hj=>by rw [getD_end,if_pos (by omega)]
 have hlz:(xs ++ [0]).length=N+1:=by simp;omega
 obtain ⟨zs0,hz0⟩:∃ zs0,zs0=xs ++ [0]:=⟨_,rfl⟩
 rw [← hz0] at hrz hwz hvz hgz hlz
 rw [← hN] at hcp ⊢
 rw [← hM]
 have t0:(M:Int)<(N:Int):=by omega
 have hb1:N<1099511627775:=by omega
 have HX:Hid (Arr w p xs):=hx
 have HY:Hid (Arr w q ys):=hy
 have HW:Hid (Wd xs∧Wd ys):=⟨hwx,hwy⟩
 have HN:Hid (N=xs.length∧M=ys.length∧M≤N):=⟨hN,hM,hNM⟩
 obtain ⟨g,hg⟩:∃ g,g=w.heap.size:=⟨_,rfl⟩
 rw [← hg] at hrz
 have HG:Hid (g=w.heap.size):=hg
 clear hx hy hwx hwy lx hl hN hM hkw hr2 hk1 hz0
 go_enter Tryz.func245,Tryz.ntmps245
 go_wp2
 rw [← hg]
 clear hmk hcp
 go_loopw [6,25] (fun cc i wr=>∃ (k C:Nat) (zs:List Int),cc=.int .u32 C∧i=.int .i64 k∧k≤M∧Rw wr g (N+1) zs∧zs.length=N+1∧Wd zs∧C≤1∧val zs+C*4294967296 ^ k=val xs+val (ys.take k)∧(∀ j,k≤j→j<N→zs.getD j 0=xs.getD j 0)∧Kp w wr) (fun _ i _=>M - (intOf i).toNat)
 case atStart=>exact ⟨0,0,zs0,rfl,rfl,Nat.zero_le _,hrz,hlz,hwz,by omega,by simp [val,hvz],fun j _ hj=>hgz j hj,hk2⟩
 case round =>
  clear hrz hwz hvz hgz hlz hk2 hg t0
  obtain ⟨k,C,zs,rfl,rfl,hk,hrow,hzl,hwz,hC,hv,hsam,hkp⟩:=hrel
  obtain ⟨hN,hM,hNM⟩:=HN.out
  obtain ⟨hwx,hwy⟩:=HW.out
  by_cases ck:k<M
  ·obtain ⟨b,off,rfl,hc⟩:=HX.out.at (k:=k) (by omega)
   obtain ⟨b',off',rfl,hc'⟩:=HY.out.at (k:=k) (by omega)
   have e1:=kkeep hkp (hc k (by omega))
   have e2:=kkeep hkp (hc' k (by omega))
   have hbg:b≠g:=by have:=cell_lt (hc k (by omega));have:=HG.out;omega
   have hbg':b'≠g:=by have:=cell_lt (hc' k (by omega));have:=HG.out;omega
   have e3:=World.rowIs.cell hrow (i:=k) (by omega)
   have e4:=World.rowIs.frozen hrow k
   have wx:=hwx k
   have wy:=hwy k
   have hzX:=hsam k (Nat.le_refl _) (by omega)
   obtain ⟨S,hS⟩:∃ S:Nat,S=(xs.getD k 0).toNat+(ys.getD k 0).toNat+C:=⟨_,rfl⟩
   have hst:=sum_step zs k C S _ (xs.getD k 0) (ys.getD k 0) (by omega) hzX hS hv
   rw [Nat.add_assoc,← val_take_succ] at hst
   obtain ⟨X,hX⟩:∃ X,X=xs.getD k 0:=⟨_,rfl⟩
   obtain ⟨Y,hY⟩:∃ Y,Y=ys.getD k 0:=⟨_,rfl⟩
   rw [← hX] at e1 wx hS
   rw [← hY] at e2 wy hS
   have had:=add32_ X Y (C:Int) wx wy (by omega)
   have f1:(X+Y+(C:Int)) % 4294967296=((S % 4294967296:Nat):Int):=by omega
   have f2:(X+Y+(C:Int)) / 4294967296=((S / 4294967296:Nat):Int):=by omega
   rw [f1,f2] at had
   have hC':S / 4294967296≤1:=by omega
   obtain ⟨Z,hZ⟩:∃ Z:Int,Z=((S % 4294967296:Nat):Int):=⟨_,rfl⟩
   obtain ⟨C',hC2⟩:∃ C':Nat,C'=S / 4294967296:=⟨_,rfl⟩
   rw [← hZ] at had hst
   rw [← hC2] at had hst hC'
   have hsam2:∀ j,k+1≤j→j<N→(zs.set k Z).getD j 0=xs.getD j 0:=fun j h1 h2=>by
    rw [← hsam j (by omega) h2];simp [List.getD,show ¬ k=j from by omega]
   have hw2:Wd (zs.set k Z):=hwz.set k Z (by omega)
   have hl2:(zs.set k Z).length=N+1:=by rw [List.length_set];exact hzl
   have hrs:∀ w':World,Kp wr w'→Rw (w'.setCell ⟨g,k,none⟩ (.int .u32 Z)) g (N+1) (zs.set k Z):=fun w' h=>(hrow.grown h).set k Z (by omega)
   have hkk:k<N+1:=by omega
   have i0:(0:Int)≤(k:Int):=by omega
   have i1:(k:Int)<(N:Int):=by omega
   have i2:(k:Int)<(M:Int):=by omega
   have i3:(k:Int)<(N:Int)+1:=by omega
   have hgw:w.heap.size≤g:=by rw [HG.out];exact Nat.le_refl _
   clear hc hc' HX HY HW HN HG hN hM hX hY hS hv hZ hC2 wx wy hwz hC hwx hwy f1 f2 hzX hsam hzl hrow
   go_wp2
   go_region_held3 (fun w'=>w'.cell? ⟨b,off+k,none⟩=some (.int .u32 X)∧w'.cell? ⟨b',off'+k,none⟩=some (.int .u32 Y)) (first | (exact ⟨e1,e2⟩) | (exact ⟨(CF _ _ _ _ (Ne.symm hbg)).trans e1,(CF _ _ _ _ (Ne.symm hbg')).trans e2⟩)) (first | (go_at_call 266;refine (had _).mono ?_;rintro e w' ⟨rfl,rfl⟩))
   have hR:Rw (wr.setCell ⟨g,k,none⟩ (.int .u32 Z)).drew g (N+1) (zs.set k Z):=hrs wr (Kp.refl _)
   have hK:Kp w (wr.setCell ⟨g,k,none⟩ (.int .u32 Z)).drew:=(hkp.setCell hgw _).drew
   clear hrs hkp e1 e2 e3 e4 had
   go_wp2
   exact ⟨⟨k+1,C',zs.set k Z,rfl,by go_num,by omega,hR,hl2,hw2,hC',hst,hsam2,hK⟩,by simp [intOf];omega⟩
  ·have hkM:k=M:=by omega
   subst hkM
   rw [hM,List.take_length,← hM] at hv
   have i2:¬ ((k:Int)<(k:Int)):=by omega
   have HV:Hid (val zs+C*4294967296 ^ k=val xs+val ys):=hv
   clear hv HX HY hsam hk ck hN hM hNM hwx hwy
   go_wp2
   go_loopw [6,8] (fun cc i wq=>∃ (j C:Nat) (zs:List Int),cc=.int .u32 C∧i=.int .i64 j∧Rw wq g (N+1) zs∧zs.length=N+1∧Wd zs∧C≤1∧val zs+C*4294967296 ^ j=val xs+val ys∧Kp w wq∧j≤N+1) (fun _ i _=>N+2 - (intOf i).toNat)
   case atStart=>exact ⟨k,C,zs,rfl,rfl,hrow,hzl,hwz,hC,HV.out,hkp,by have:=HN.out.2.2;omega⟩
   case round =>
    clear hrow hzl hwz hC HV hkp
    obtain ⟨j,C,zs,rfl,rfl,hrow,hzl,hwz,hC,hv,hkp,hj⟩:=hrel
    obtain ⟨hN,hM,hNM⟩:=HN.out
    obtain ⟨hwx,hwy⟩:=HW.out
    rcases (by omega:C=0∨C=1) with rfl | rfl
    ·rw [Nat.zero_mul,Nat.add_zero] at hv
     have hA:=hrow.arr (N+1) (Nat.le_refl _) (by omega)
     rw [List.take_of_length_le (by omega)] at hA
     have htr:=trim_ (some ⟨g,0,none⟩) (N+1) zs wr hA (by omega) (by omega)
     have hO:Own wr w.heap.size (.slice (some ⟨g,0,none⟩) (tl zs) (N+1)) (dig (val xs+val ys)):=by
      have h1:=Own.of_row (base:=w.heap.size) (k:=tl zs) hrow (by rw [HG.out];exact Nat.le_refl _) (by have:=tl_le zs;omega) hzl (by unfold maxLen;omega)
      have h2:zs.take (tl zs)=dig (val xs+val ys):=by rw [← hv,← nz_dig zs hwz];rfl
      rw [h2] at h1
      exact h1
     rw [hzl] at htr
     obtain ⟨T,hT⟩:∃ T,T=tl zs:=⟨_,rfl⟩
     rw [← hT] at htr hO
     clear hA hrow hzl hwz hC hv hj hT HW HN HG hN hM hNM hwx hwy i2
     go_wp2_with (first | (go_at_call 241;refine htr.mono ?_;rintro e w' ⟨rfl,rfl⟩))
     exact BR (v:=.slice (some ⟨g,0,none⟩) T (N+1)) (by simp [results,Tryz.results245,go_sem] <;> simp only [*]) rfl ⟨_,rfl,hO,hkp⟩
    ·have hjN:j≤N:=by
      have:=sum_room xs ys zs j hwx hwy (by omega) hv
      omega
     have e3:=World.rowIs.cell hrow (i:=j) (by omega)
     have e4:=World.rowIs.frozen hrow j
     have wz:=hwz j
     obtain ⟨Z0,hZ0⟩:∃ Z0,Z0=zs.getD j 0:=⟨_,rfl⟩
     obtain ⟨S,hS⟩:∃ S:Nat,S=Z0.toNat+(0:Int).toNat+1:=⟨_,rfl⟩
     have hst:=sum_step zs j 1 S _ Z0 0 (by omega) hZ0.symm hS hv
     rw [show (0:Int).toNat=0 from rfl,Nat.zero_mul,Nat.add_zero] at hst
     rw [← hZ0] at wz
     rw [show (0:Int).toNat=0 from rfl] at hS
     have had:=add32_ Z0 0 1 wz (by omega) (by omega)
     have f1:(Z0+0+1) % 4294967296=((S % 4294967296:Nat):Int):=by omega
     have f2:(Z0+0+1) / 4294967296=((S / 4294967296:Nat):Int):=by omega
     rw [f1,f2] at had
     have hC':S / 4294967296≤1:=by omega
     obtain ⟨Z,hZ⟩:∃ Z:Int,Z=((S % 4294967296:Nat):Int):=⟨_,rfl⟩
     obtain ⟨C',hC2⟩:∃ C':Nat,C'=S / 4294967296:=⟨_,rfl⟩
     rw [← hZ] at had hst
     rw [← hC2] at had hst hC'
     have hw2:Wd (zs.set j Z):=hwz.set j Z (by omega)
     have hl2:(zs.set j Z).length=N+1:=by rw [List.length_set];exact hzl
     have hR:Rw (wr.setCell ⟨g,j,none⟩ (.int .u32 Z)) g (N+1) (zs.set j Z):=hrow.set j Z (by omega)
     have hK:Kp w (wr.setCell ⟨g,j,none⟩ (.int .u32 Z)):=hkp.setCell (by rw [HG.out];exact Nat.le_refl _) _
     have e3':wr.cell? ⟨g,j,none⟩=some (.int .u32 Z0):=by rw [hZ0];exact e3
     have i0:(0:Int)≤(j:Int):=by omega
     have i3:(j:Int)<(N:Int)+1:=by omega
     clear e3 hrow hzl hwz hC hv hS hZ hC2 hZ0 wz f1 f2 HW HN HG hN hM hNM hwx hwy i2 hkp
     go_wp2_with (first | (go_at_call 266;refine (had _).mono ?_;rintro e w' ⟨rfl,rfl⟩))
     exact ⟨⟨j+1,C',zs.set j Z,rfl,by go_num,hR,hl2,hw2,hC',hst,hK,by omega⟩,by simp [intOf];omega⟩
theorem Arr.take {w:World} {p:Option Addr} {xs:List Int} (h:Arr w p xs) (k:Nat):Arr w p (xs.take k):=by
 rcases h with h | ⟨b,off,h1,h2⟩
 ·subst h;exact Or.inl (by simp)
 ·refine Or.inr ⟨b,off,h1,fun j hj=>?_⟩
  have hj2:j<k∧j<xs.length:=by simp at hj;omega
  rw [h2 j hj2.2];simp [List.getD,hj2.1]
theorem sum_any (p q:Option Addr) (c d:Nat) (xs ys:List Int) (w:World) (hx:Arr w p xs) (hy:Arr w q ys) (hwx:Wd xs) (hwy:Wd ys) (lx:xs.length<1099511627775) (ly:ys.length<1099511627775) :
  Calls Tryz.prog 245 #[.slice p xs.length c,.slice q ys.length d] w fun e w'=>∃ v,e=.returned v∧Own w' w.heap.size v (dig (val xs+val ys))∧Kp w w':=by
 by_cases h:ys.length≤xs.length
 ·exact sum_ge p q c d xs ys w hx hy hwx hwy lx h
 ·rw [Nat.add_comm]
  exact sum_lt q p d c ys xs w hy hx hwy hwx ly (by omega)
theorem nadd_ (p q:Option Addr) (c d:Nat) (xs ys:List Int) (w:World) (hx:Arr w p xs) (hy:Arr w q ys) (hwx:Wd xs) (hwy:Wd ys) (lx:xs.length<1099511627775) (ly:ys.length<1099511627775) (hc:xs.length≤c) (hd:ys.length≤d) :
  Calls Tryz.prog 211 #[.slice p xs.length c,.slice q ys.length d] w fun e w'=>∃ v,e=.returned (.tuple #[v,.int .i64 (addN (val xs) (val ys)).2])∧Own w' w.heap.size v (addN (val xs) (val ys)).1∧Kp w w':=by
 have h1:=trim_ p c xs w hx (by omega) hc
 have h2:=trim_ q d ys w hy (by omega) hd
 have h3:=tooLong_ p (tl xs) c
 have h4:=tooLong_ q (tl ys) d
 have h5:=sum_any p q c d (nz xs) (nz ys) w (hx.take _) (hy.take _) (hwx.take _) (hwy.take _) (by rw [nz_length];have:=tl_le xs;omega) (by rw [nz_length];have:=tl_le ys;omega)
 rw [nz_length,nz_length,val_nz,val_nz] at h5
 have e1:=tl_len xs hwx
 have e2:=tl_len ys hwy
 obtain ⟨N,hN⟩:∃ N,N=xs.length:=⟨_,rfl⟩
 obtain ⟨M,hM⟩:∃ M,M=ys.length:=⟨_,rfl⟩
 obtain ⟨S,hS⟩:∃ S,S=tl xs:=⟨_,rfl⟩
 obtain ⟨T,hT⟩:∃ T,T=tl ys:=⟨_,rfl⟩
 rw [← hN,← hS] at h1
 rw [← hM,← hT] at h2
 rw [← hS] at h3 h5 e1
 rw [← hT] at h4 h5 e2
 rw [← hN,← hM]
 by_cases c1:16384<S
 ·rw [decide_eq_true c1] at h3
  have e3:addN (val xs) (val ys)=([],2):=by unfold addN;rw [if_pos (Or.inl (by omega))]
  rw [e3]
  clear hx hy hwx hwy lx ly hc hd hN hM hS hT h4 h5 c1 e1 e2 e3
  go_enter Tryz.func211,Tryz.ntmps211
  go_wp2_with fail
  refine h1.mono ?_;rintro e w' ⟨rfl,rfl⟩
  go_wp2_with fail
  refine h2.mono ?_;rintro e w' ⟨rfl,rfl⟩
  go_wp2_with fail
  refine (h3 _).mono ?_;rintro e w' ⟨rfl,rfl⟩
  go_wp2
  exact BR (v:=.tuple #[.slice none 0 0,.int .i64 2]) (by simp [results,Tryz.results211,go_sem] <;> simp only [*]) rfl ⟨_,rfl,Own.nil _ _,Kp.refl _⟩
 rw [decide_eq_false c1] at h3
 by_cases c2:16384<T
 ·rw [decide_eq_true c2] at h4
  have e3:addN (val xs) (val ys)=([],2):=by unfold addN;rw [if_pos (Or.inr (by omega))]
  rw [e3]
  clear hx hy hwx hwy lx ly hc hd hN hM hS hT h5 c1 c2 e1 e2 e3
  go_enter Tryz.func211,Tryz.ntmps211
  go_wp2_with fail
  refine h1.mono ?_;rintro e w' ⟨rfl,rfl⟩
  go_wp2_with fail
  refine h2.mono ?_;rintro e w' ⟨rfl,rfl⟩
  go_wp2_with fail
  refine (h3 _).mono ?_;rintro e w' ⟨rfl,rfl⟩
  go_wp2_with fail
  refine (h4 _).mono ?_;rintro e w' ⟨rfl,rfl⟩
  go_wp2
  exact BR (v:=.tuple #[.slice none 0 0,.int .i64 2]) (by simp [results,Tryz.results211,go_sem] <;> simp only [*]) rfl ⟨_,rfl,Own.nil _ _,Kp.refl _⟩
 rw [decide_eq_false c2] at h4
 have e0:addN (val xs) (val ys)=if 16384<len32 (val xs+val ys) then ([],2) else (dig (val xs+val ys),0):=by unfold addN;rw [if_neg (by omega)]
 obtain ⟨K,hK⟩:∃ K,K=val xs+val ys:=⟨_,rfl⟩
 rw [e0,← hK]
 rw [← hK] at h5
 clear hx hy hwx hwy hc hd hN hM hS hT c1 c2 e0 hK e1 e2
 by_cases c3:16384<len32 K
 ·rw [if_pos c3]
  go_enter Tryz.func211,Tryz.ntmps211
  go_wp2_with fail
  refine h1.mono ?_;rintro e w' ⟨rfl,rfl⟩
  go_wp2_with fail
  refine h2.mono ?_;rintro e w' ⟨rfl,rfl⟩
  go_wp2_with fail
  refine (h3 _).mono ?_;rintro e w' ⟨rfl,rfl⟩
  go_wp2_with fail
  refine (h4 _).mono ?_;rintro e w' ⟨rfl,rfl⟩
  go_wp2_with fail
  refine h5.mono ?_;rintro e w1 ⟨v,rfl,hO,hkp⟩
  obtain ⟨p1,cc,rfl,hA,_⟩:=hO.arr
  have hf:=unlessLong_ p1 (dig K).length cc
  have c4:(16384<(dig K).length):=c3
  rw [if_pos c4] at hf
  clear c4
  obtain ⟨D,hD⟩:∃ D,D=(dig K).length:=⟨_,rfl⟩
  have hO':Own w1 w'.heap.size (.slice p1 D cc) (dig K):=by rw [hD];exact hO
  rw [← hD] at hf ⊢
  clear hA h1 h2 h3 h4 h5 hD c3 hO
  go_wp2_with fail
  refine (hf _).mono ?_;rintro e w2 ⟨rfl,rfl⟩
  go_wp2
  exact BR (v:=.tuple #[.slice none 0 0,.int .i64 2]) (by simp [results,Tryz.results211,go_sem] <;> simp only [*]) rfl ⟨_,rfl,Own.nil _ _,hkp⟩
 ·rw [if_neg c3]
  go_enter Tryz.func211,Tryz.ntmps211
  go_wp2_with fail
  refine h1.mono ?_;rintro e w' ⟨rfl,rfl⟩
  go_wp2_with fail
  refine h2.mono ?_;rintro e w' ⟨rfl,rfl⟩
  go_wp2_with fail
  refine (h3 _).mono ?_;rintro e w' ⟨rfl,rfl⟩
  go_wp2_with fail
  refine (h4 _).mono ?_;rintro e w' ⟨rfl,rfl⟩
  go_wp2_with fail
  refine h5.mono ?_;rintro e w1 ⟨v,rfl,hO,hkp⟩
  obtain ⟨p1,cc,rfl,hA,_⟩:=hO.arr
  have hf:=unlessLong_ p1 (dig K).length cc
  have c4:¬ (16384<(dig K).length):=c3
  rw [if_neg c4] at hf
  clear c4
  obtain ⟨D,hD⟩:∃ D,D=(dig K).length:=⟨_,rfl⟩
  have hO':Own w1 w'.heap.size (.slice p1 D cc) (dig K):=by rw [hD];exact hO
  rw [← hD] at hf ⊢
  clear hA h1 h2 h3 h4 h5 hD c3 hO
  go_wp2_with fail
  refine (hf _).mono ?_;rintro e w2 ⟨rfl,rfl⟩
  go_wp2
  exact BR (v:=.tuple #[.slice p1 D cc,.int .i64 0]) (by simp [results,Tryz.results211,go_sem] <;> simp only [*]) rfl ⟨_,rfl,hO',hkp⟩

theorem low_bit32 (o k:Nat) (ho:o % 2=1) (hx:o*2 ^ k<2 ^ 32):(o*2 ^ k) &&& (2 ^ 32 - o*2 ^ k)=2 ^ k:=by
 have hp:=Nat.two_pow_pos k
 have hpos:0<o*2 ^ k:=Nat.mul_pos (by omega) hp
 apply Nat.eq_of_testBit_eq
 intro i
 rw [Nat.testBit_and,show 2 ^ 32 - o*2 ^ k=2 ^ 32 - ((o*2 ^ k - 1)+1) from by omega,Nat.testBit_two_pow_sub_succ (by omega),Nat.testBit_two_pow]
 have e1:(o*2 ^ k).testBit i=(decide (i ≥ k) && o.testBit (i - k)):=by rw [← Nat.shiftLeft_eq,Nat.testBit_shiftLeft]
 have e2:(o*2 ^ k - 1).testBit i=if i<k then (2 ^ k - 1).testBit i else (o - 1).testBit (i - k):=by
  rw [← Nat.testBit_two_pow_mul_add (o - 1) (by omega:2 ^ k - 1<2 ^ k) i]
  congr 1
  have:2 ^ k*(o - 1)+2 ^ k=2 ^ k*o:=by rw [← Nat.mul_succ];congr 1;omega
  rw [Nat.mul_comm o]
  omega
 have hk:k<32:=by
  have h1:2 ^ k≤o*2 ^ k:=Nat.le_mul_of_pos_left _ (by omega)
  exact (Nat.pow_lt_pow_iff_right (by decide:1<2)).1 (Nat.lt_of_le_of_lt h1 hx)
 rw [e1,e2]
 by_cases c:i<k
 ·have:¬ i ≥ k:=by omega
  have h2:¬ k=i:=by omega
  simp [this,h2]
 ·rw [if_neg c]
  obtain ⟨j,rfl⟩:∃ j,i=k+j:=⟨i - k,by omega⟩
  rw [show k+j - k=j from by omega]
  cases j with
  | zero =>
    have h1:(o - 1).testBit 0=false:=by rw [Nat.testBit_zero];simp;omega
    have h2:o.testBit 0=true:=by rw [Nat.testBit_zero];simp;omega
    simp [h1,h2,hk]
  | succ j =>
    have h1:(o - 1).testBit (j+1)=o.testBit (j+1):=by
     rw [Nat.testBit_succ,Nat.testBit_succ];congr 1;omega
    rw [h1]
    have h2:¬ k=k+(j+1):=by omega
    cases o.testBit (j+1) <;> simp

def tabL:List Int:=[0,1,28,2,29,14,24,3,30,22,20,15,25,17,4,8,31,27,13,23,21,19,16,7,26,12,18,6,11,5,10,9]
def Tab (w:World):Prop:=∀ i:Nat,i<32→w.cell? ⟨2,i,none⟩=some (.int .u8 (tabL.getD i 0))
theorem Tab.grown {w w':World} (h:Tab w) (g:Kp w w'):Tab w':=fun i hi=>kkeep g (h i hi)
theorem tab_at:∀ k:Fin 32,2 ^ k.val*125613361 % 4294967296 / 134217728<32∧tabL.getD (2 ^ k.val*125613361 % 4294967296 / 134217728) 0=(k.val:Int):=by decide +kernel
theorem tz32_ (o k:Nat) (ho:o % 2=1) (hx:o*2 ^ k<4294967296) (w:World) (hT:Tab w) :
  Calls Tryz.prog 280 #[.int .u32 ((o*2 ^ k:Nat):Int)] w fun e w'=>e=.returned (.int .i64 (k:Int))∧w'=w:=by
 have hp:=Nat.two_pow_pos k
 have hpos:0<o*2 ^ k:=Nat.mul_pos (by omega) hp
 have h64:(2:Nat) ^ 32=4294967296:=by decide
 have hk:k<32:=by
  have h1:2 ^ k≤o*2 ^ k:=Nat.le_mul_of_pos_left _ (by omega)
  exact (Nat.pow_lt_pow_iff_right (by decide:1<2)).1 (Nat.lt_of_le_of_lt h1 (by rw [h64];exact hx))
 have hlow:=low_bit32 o k ho (by rw [h64];exact hx)
 rw [h64] at hlow
 obtain ⟨t1,t2⟩:=tab_at ⟨k,hk⟩
 simp only at t1 t2
 obtain ⟨x,hxx⟩:∃ x:Nat,x=o*2 ^ k:=⟨_,rfl⟩
 rw [← hxx] at hlow hx hpos ⊢
 obtain ⟨P,hP⟩:∃ P:Nat,P=2 ^ k:=⟨_,rfl⟩
 rw [← hP] at hlow t1 t2
 have hc:w.cell? ⟨2,P*125613361 % 4294967296 / 134217728,none⟩=some (.int .u8 (k:Int)):=by rw [hT _ t1,t2]
 have d1:((x:Int) == 0)=false:=by simp;omega
 have f1:IntKind.u32.wrap (-(x:Int))=((4294967296 - x:Nat):Int):=by rw [IntKind.wrap_u32];omega
 have f2:bits BinOp.and IntKind.u32 (x:Int) ((4294967296 - x:Nat):Int)=(P:Int):=by
  rw [u32_and_nat x (4294967296 - x) hx (by omega),hlow]
 obtain ⟨y,hy⟩:∃ y:Int,y=((4294967296 - x:Nat):Int):=⟨_,rfl⟩
 rw [← hy] at f1 f2
 have f4:(0:Int)≤(P:Int)*125613361 % 4294967296 / 134217728:=by omega
 have f5:(P:Int)*125613361 % 4294967296 / 134217728<32:=by omega
 have f6:wrap64 (k:Int)=(k:Int):=by unfold wrap64;omega
 clear hy hP hxx hlow t1 t2 hpos hp h64 hx ho hT hk
 go_enter Tryz.func280,Tryz.ntmps280
 go_wp2
 exact BR (v:=.int .i64 (k:Int)) (by simp [results,Tryz.results280,go_sem] <;> simp only [*]) rfl ⟨rfl,rfl⟩
theorem nzeros_ (p:Option Addr) (c:Nat) (xs:List Int) (w:World) (hx:Arr w p xs) (hwx:Wd xs) (lx:xs.length≤16777216) (hT:Tab w) :
  Calls Tryz.prog 277 #[.slice p xs.length c] w fun e w'=>e=.returned (.int .i64 (ctz (val xs):Nat))∧w'=w:=by
 obtain ⟨N,hN⟩:∃ N,N=xs.length:=⟨_,rfl⟩
 obtain ⟨R,hR⟩:∃ R,R=ctz (val xs):=⟨_,rfl⟩
 have HX:Hid (Arr w p xs∧Wd xs∧N=xs.length∧R=ctz (val xs)∧Tab w):=⟨hx,hwx,hN,hR,hT⟩
 have lN:N≤16777216:=by omega
 rw [← hN,← hR]
 clear hx hwx lx hN hR hT
 go_enter Tryz.func277,Tryz.ntmps277
 go_wp2
 go_loop [6] (fun i=>∃ k:Nat,i=.int .i64 k∧k≤N∧∀ j,j<k→xs.getD j 0=0) (fun i=>N - (intOf i).toNat)
 case atStart=>exact ⟨0,rfl,Nat.zero_le _,fun j h=>by omega⟩
 case round =>
  obtain ⟨k,rfl,hk,hz⟩:=hrel
  obtain ⟨hx,hwx,hN,hR,hT⟩:=HX.out
  by_cases ck:k<N
  ·obtain ⟨b,off,rfl,hc⟩:=hx.at (k:=k) (by omega)
   have e1:=hc k (by omega)
   have wx:=hwx k
   have i0:(0:Int)≤(k:Int):=by omega
   have i1:(k:Int)<(N:Int):=by omega
   by_cases cx:xs.getD k 0=0
   ·have HZ:Hid (∀ j,j<k+1→xs.getD j 0=0):=fun j hj=>by
     by_cases e:j=k
     ·subst e;exact cx
     ·exact hz j (by omega)
    rw [cx] at e1
    clear HX hx hwx hN hR hT hc wx cx hz
    go_wp2
    exact ⟨⟨k+1,by go_num,by omega,HZ.out⟩,by simp [intOf];omega⟩
   ·obtain ⟨o,s,ho,hs⟩:=odd_part (xs.getD k 0).toNat (by omega)
    have hlt:o*2 ^ s<4294967296:=by omega
    have hs32:s<32:=by
     have h1:2 ^ s≤o*2 ^ s:=Nat.le_mul_of_pos_left _ (by omega)
     exact (Nat.pow_lt_pow_iff_right (by decide:1<2)).1 (Nat.lt_of_le_of_lt h1 (Nat.lt_of_lt_of_le hlt (by decide)))
    have hRv:=ctz_val xs k o s hz (by omega) ho hs32 hs
    rw [← hR] at hRv
    have htz:=tz32_ o s ho hlt w hT
    have e2:xs.getD k 0=((o*2 ^ s:Nat):Int):=by omega
    rw [e2] at e1
    obtain ⟨X,hX⟩:∃ X:Nat,X=o*2 ^ s:=⟨_,rfl⟩
    rw [← hX] at e1 htz hs
    have t1:((X:Int) != 0)=true:=by simp;omega
    have f1:(k:Int)*32+(s:Int)=(R:Int):=by omega
    have hkb:k≤16777216:=by omega
    clear HX hx hwx hN hR hT hc wx cx hz ho hs hlt e2 hX hRv
    go_wp2_with (first | (go_at_call 280;refine SM htz ?_))
    exact BR (v:=.int .i64 (R:Int)) (by simp [results,Tryz.results277,go_sem] <;> simp only [*]) rfl ⟨rfl,rfl⟩
  ·have hv:val xs=0:=val_zeros xs (fun j=>by
    by_cases e:j<k
    ·exact hz j e
    ·simp [List.getD,List.getElem?_eq_none (by omega:xs.length≤j)])
   rw [hv,ctz_zero] at hR
   subst hR
   have i1:¬ ((k:Int)<(N:Int)):=by omega
   clear HX hx hwx hN hT hz hv
   go_wp2
   exact BR (v:=.int .i64 0) (by simp [results,Tryz.results277,go_sem] <;> simp only [*]) rfl ⟨rfl,rfl⟩
theorem rbit_ (p:Option Addr) (c i j:Nat) (xs:List Int) (w:World) (hx:Arr w p xs) (hwx:Wd xs) (lx:xs.length≤16777216) (hi:i<xs.length) (hj:j<32) :
  Calls Tryz.prog 173 #[.slice p xs.length c,.int .i64 ((32*i+j:Nat):Int)] w fun e w'=>e=.returned (.int .u32 ((xs.getD i 0).toNat / 2 ^ j % 2:Nat))∧w'=w:=by
 obtain ⟨N,hN⟩:∃ N,N=xs.length:=⟨_,rfl⟩
 obtain ⟨b,off,rfl,hc⟩:=hx.at hi
 have e1:=hc i hi
 have wx:=hwx i
 obtain ⟨X,hX⟩:∃ X:Nat,(X:Int)=xs.getD i 0:=⟨(xs.getD i 0).toNat,by omega⟩
 rw [← hX] at e1 ⊢
 rw [Int.toNat_natCast]
 obtain ⟨k,hk⟩:∃ k,k=32*i+j:=⟨_,rfl⟩
 rw [← hk,← hN]
 have t0:¬ ((k:Int)<0):=by omega
 have f1:(k:Int) / 32=(i:Int):=by omega
 have f2:(k:Int) % 32=(j:Int):=by omega
 have i0:(0:Int)≤(i:Int):=by omega
 have i1:(i:Int)<(N:Int):=by omega
 have i2:¬ ((N:Int)≤(i:Int)):=by omega
 have f3:IntKind.u64.wrap (j:Int)=(j:Int):=by rw [IntKind.wrap_u64];omega
 have f7:wrap64 (i:Int)=(i:Int):=by unfold wrap64;omega
 have f8:wrap64 (j:Int)=(j:Int):=by unfold wrap64;omega
 obtain ⟨Q,hQ⟩:∃ Q,Q=X / 2 ^ j:=⟨_,rfl⟩
 rw [← hQ]
 have hQX:Q≤X:=by rw [hQ];exact Nat.div_le_self _ _
 have f4:(X:Int) / 2 ^ j=(Q:Int):=by rw [hQ];push_cast;rfl
 have f5:bits BinOp.and IntKind.u32 (Q:Int) 1=((Q % 2:Nat):Int):=by
  have:=u32_and_nat Q 1 (by omega) (by omega)
  rw [Nat.and_one_is_mod] at this
  exact this
 obtain ⟨B,hB⟩:∃ B,B=Q % 2:=⟨_,rfl⟩
 rw [← hB] at f5 ⊢
 clear hx hwx lx hi hc wx hX hk hN hQ hQX hB
 go_enter Tryz.func173,Tryz.ntmps173
 go_wp2
 exact BR (v:=.int .u32 (B:Int)) (by simp [results,Tryz.results173,go_sem] <;> simp only [*]) rfl ⟨rfl,rfl⟩
theorem rzeros_ (p:Option Addr) (c:Nat) (xs:List Int) (w:World) (hx:Arr w p xs) (hwx:Wd xs) (lx:xs.length≤16777216) :
  Calls Tryz.prog 169 #[.slice p xs.length c] w fun e w'=>e=.returned (.int .i64 (ctz (val xs):Nat))∧w'=w:=by
 have h1:=words_ p c xs w hx (by omega)
 have lS:=tl_le xs
 obtain ⟨R,hR⟩:∃ R,R=ctz (val xs):=⟨_,rfl⟩
 rcases Nat.eq_zero_or_pos (tl xs) with h0 | h0
 ·have e0:val xs=0:=by rw [← val_tl xs,h0];rfl
  rw [h0] at h1
  rw [e0,ctz_zero]
  obtain ⟨N,hN⟩:∃ N,N=xs.length:=⟨_,rfl⟩
  rw [← hN] at h1 ⊢
  clear hx hwx lx lS h0 e0 hN hR
  go_enter Tryz.func169,Tryz.ntmps169
  go_wp2_with fail
  refine SM h1 ?_
  go_wp2
  exact BR (v:=.int .i64 0) (by simp [results,Tryz.results169,go_sem] <;> simp only [*]) rfl ⟨rfl,rfl⟩
 ·have hbit:=fun (i j:Nat) hi hj=>rbit_ p c i j xs w hx hwx lx hi hj
  have htop:xs.getD (tl xs - 1) 0≠0:=by
   rcases (tl_spec xs xs.length).2 with e | e
   ·exfalso;have:tl xs=0:=e;omega
   ·exact e
  obtain ⟨N,hN⟩:∃ N,N=xs.length:=⟨_,rfl⟩
  obtain ⟨S,hS⟩:∃ S,S=tl xs:=⟨_,rfl⟩
  rw [← hN,← hS] at h1
  rw [← hS] at htop h0 lS
  rw [← hR]
  rw [← hN] at hbit lS lx ⊢
  have t0:((S:Int) == 0)=false:=by simp;omega
  have HX:Hid (Arr w p xs∧Wd xs∧N=xs.length∧R=ctz (val xs)∧xs.getD (S - 1) 0≠0∧0<S∧S≤N):=⟨hx,hwx,hN,hR,htop,h0,lS⟩
  have HB:Hid (∀ (i j:Nat),i<N→j<32→Calls Tryz.prog 173 #[.slice p N c,.int .i64 ((32*i+j:Nat):Int)] w fun e w'=>e=.returned (.int .u32 ((xs.getD i 0).toNat / 2 ^ j % 2:Nat))∧w'=w):=hbit
  clear hx hwx hN hR hbit htop h0 hS lS
  go_enter Tryz.func169,Tryz.ntmps169
  go_wp2_with fail
  refine SM h1 ?_
  clear h1
  go_wp2
  clear t0
  go_loop [3] (fun z=>∃ i:Nat,z=.int .i64 ((32*i:Nat):Int)∧i<S∧∀ j,j<i→xs.getD j 0=0) (fun z=>32*S - (intOf z).toNat)
  case atStart=>exact ⟨0,rfl,HX.out.2.2.2.2.2.1,fun j h=>by omega⟩
  case round =>
   obtain ⟨i,rfl,hi,hz⟩:=hrel
   obtain ⟨hx,hwx,hN,hR,htop,h0,lS⟩:=HX.out
   obtain ⟨b,off,rfl,hc⟩:=hx.at (k:=i) (by omega)
   have e1:=hc i (by omega)
   obtain ⟨k,hk⟩:∃ k,k=32*i:=⟨_,rfl⟩
   rw [← hk]
   have f1:(k:Int) / 32=(i:Int):=by omega
   have i0:(0:Int)≤(i:Int):=by omega
   have i1:(i:Int)<(N:Int):=by omega
   have hkb:k≤536870912:=by omega
   by_cases cx:xs.getD i 0=0
   ·have hi2:i+1<S:=by
     by_cases e:i=S - 1
     ·subst e;exact absurd cx htop
     ·omega
    have HZ:Hid ((∀ j,j<i+1→xs.getD j 0=0)∧k=32*i):=⟨fun j hj=>by
     by_cases e:j=i
     ·subst e;exact cx
     ·exact hz j (by omega),hk⟩
    rw [cx] at e1
    clear HX HB hx hwx hN hR htop h0 lS hc cx hz hk
    go_wp2
    exact ⟨⟨i+1,by have:=HZ.out.2;go_num,hi2,HZ.out.1⟩,by have:=HZ.out.2;simp [intOf];omega⟩
   ·have wx:=hwx i
    obtain ⟨X,hX⟩:∃ X:Nat,(X:Int)=xs.getD i 0:=⟨(xs.getD i 0).toNat,by omega⟩
    have HX2:Hid (R=ctz (val xs)∧(∀ j,j<i→xs.getD j 0=0)∧i<xs.length∧(X:Int)=xs.getD i 0∧X≠0∧X<4294967296∧k=32*i∧i<N):=⟨hR,hz,by omega,hX,by omega,by omega,hk,by omega⟩
    rw [← hX] at e1
    have t1:((X:Int) == 0)=false:=by simp;omega
    clear HX hx hwx hN hR htop h0 lS hc cx hz wx hX
    go_wp2
    clear e1 t1 f1 i0 i1 hk hi
    go_loop [3] (fun z=>∃ j:Nat,z=.int .i64 ((32*i+j:Nat):Int)∧j<32∧X % 2 ^ j=0) (fun z=>32*(i+1) - (intOf z).toNat)
    case atStart=>exact ⟨0,by simp,by omega,by simp [Nat.mod_one]⟩
    case round =>
     obtain ⟨j,rfl,hj,hm⟩:=hrel
     obtain ⟨hR,hz,hi,hX,hX0,hX32,hk,hiN⟩:=HX2.out
     have h2:=HB.out i j hiN hj
     rw [← hX,Int.toNat_natCast] at h2
     have hXd:X=X / 2 ^ j*2 ^ j:=by
      have:=Nat.div_add_mod X (2 ^ j)
      rw [hm,Nat.add_zero,Nat.mul_comm] at this
      exact this.symm
     obtain ⟨Q,hQ⟩:∃ Q,Q=X / 2 ^ j:=⟨_,rfl⟩
     rw [← hQ] at h2 hXd
     rcases (by omega:Q % 2=0∨Q % 2=1) with cq | cq
     ·rw [cq] at h2
      have hj2:j+1<32:=by
       by_cases e:j=31
       ·exfalso
        subst e
        have:Q=0∨2≤Q:=by omega
        rcases this with q0 | q0
        ·rw [q0] at hXd;simp at hXd;exact hX0 hXd
        ·have:2*2 ^ 31≤Q*2 ^ 31:=Nat.mul_le_mul_right _ q0
         omega
       ·omega
      have HM:Hid (X % 2 ^ (j+1)=0):=by
       show X % 2 ^ (j+1)=0
       rw [hXd,Nat.pow_succ,Nat.mul_comm Q,Nat.mul_mod_mul_left,cq,Nat.mul_zero]
      obtain ⟨z,hz2⟩:∃ z,z=32*i+j:=⟨_,rfl⟩
      rw [← hz2] at h2 ⊢
      have hzb:z≤536870944:=by omega
      have HZ:Hid (z=32*i+j):=hz2
      clear HX2 HB hR hz hi hX hX0 hX32 hk hiN hXd hQ cq hm hz2
      go_wp2_with fail
      refine SM h2 ?_
      clear h2
      go_wp2
      exact ⟨⟨j+1,by have:=HZ.out;go_num,hj2,HM.out⟩,by have:=HZ.out;simp [intOf];omega⟩
     ·rw [cq] at h2
      have hRv:=ctz_val xs i Q j hz hi cq hj (by rw [← hX,Int.toNat_natCast];exact hXd)
      rw [← hR] at hRv
      rw [← hRv] at h2 ⊢
      clear HX2 HB hR hz hi hX hX0 hX32 hk hiN hXd hQ cq hm hRv
      go_wp2_with fail
      refine SM h2 ?_
      clear h2
      go_wp2
      exact BR (v:=.int .i64 (R:Int)) (by simp [results,Tryz.results169,go_sem] <;> simp only [*]) rfl ⟨rfl,rfl⟩
end Go.Proofs.YtmpjcknaelgnoaaGreatDoor
