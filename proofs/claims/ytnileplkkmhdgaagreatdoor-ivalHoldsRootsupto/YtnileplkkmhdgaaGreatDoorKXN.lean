import Derived.Test.YtnileplkkmhdgaaGreatDoorKXA0
import Derived.Deep.RegionHeld3
set_option maxHeartbeats 1000000
set_option maxRecDepth 20000
namespace Go.Proofs.YtnileplkkmhdgaaGreatDoor
open Go.RowKit
theorem sum_ge (p q:Option Addr) (c d:Nat) (xs ys:List Int) (w:World) (hx:Arr w p xs) (hy:Arr w q ys) (hwx:Wd xs) (hwy:Wd ys) (lx:xs.length < 1099511627775) (hl:ys.length≤xs.length) :
    Calls Tryz.prog 125 #[.slice p xs.length c,.slice q ys.length d] w fun e w'=>∃ v,e = .returned v∧Own w' w.heap.size v (dig (val xs + val ys))∧Kp w w':=by
  obtain ⟨N,hN⟩:∃ N,N = xs.length:=⟨_,rfl⟩
  obtain ⟨M,hM⟩:∃ M,M = ys.length:=⟨_,rfl⟩
  have hNM:M≤N:=by omega
  have hmk:∀ w:World,(Instr.makeSlice 25 (.int .i64 ((N:Int) + 1)) (.int .i64 ((N:Int) + 1))).run Tryz.prog w = .ok (.slice (some ⟨w.heap.size,0,none⟩) (N + 1) (N + 1)) (w.alloc (.cells (madeCells #[.int .u32 0] (N + 1)) 72)):=by
    have:=mk32 (N + 1) (by omega)
    simpa using this
  have hk1:Kp w (w.alloc (.cells (madeCells #[.int .u32 0] (N + 1)) 72)):=(Kp.refl w).alloc _
  obtain ⟨w2,hcp,hr2,hkw⟩:=copy32 (w.alloc (.cells (madeCells #[.int .u32 0] (N + 1)) 72)) w.heap.size (N + 1) c p xs _ (World.rowIs_made w (.int .u32 0) (N + 1) 72) (hx.grown hk1) (by omega)
  have hk2:Kp w w2:=hkw w (Nat.le_refl _) hk1
  have hrz:Rw w2 w.heap.size (N + 1) (xs ++ [0]):=World.rowIs.congr hr2 (fun j _=>by
    rw [getD_end]
    by_cases e:j < xs.length
    · rw [if_pos e,if_pos e]
    · rw [if_neg e,if_neg e])
  have hwz:Wd (xs ++ [0]):=hwx.append (Wd.one (by omega))
  have hvz:=val_zero_end xs
  have hgz:∀ j,j < N→(xs ++ [0]).getD j 0 = xs.getD j 0:=fun j hj=>by rw [getD_end,if_pos (by omega)]
  have hlz:(xs ++ [0]).length = N + 1:=by simp;omega
  obtain ⟨zs0,hz0⟩:∃ zs0,zs0 = xs ++ [0]:=⟨_,rfl⟩
  rw [← hz0] at hrz hwz hvz hgz hlz
  rw [← hN] at hcp ⊢
  rw [← hM]
  have t0:¬ ((N:Int) < (M:Int)):=by omega
  have hb1:N < 1099511627775:=by omega
  have HX:Hid (Arr w p xs):=hx
  have HY:Hid (Arr w q ys):=hy
  have HW:Hid (Wd xs∧Wd ys):=⟨hwx,hwy⟩
  have HN:Hid (N = xs.length∧M = ys.length∧M≤N):=⟨hN,hM,hNM⟩
  obtain ⟨g,hg⟩:∃ g,g = w.heap.size:=⟨_,rfl⟩
  rw [← hg] at hrz
  have HG:Hid (g = w.heap.size):=hg
  clear hx hy hwx hwy lx hl hN hM hkw hr2 hk1 hz0
  go_enter Tryz.func125,Tryz.ntmps125
  go_wp2
  rw [← hg]
  clear hmk hcp
  go_loopw [6,25] (fun cc i wr=>∃ (k C:Nat) (zs:List Int),cc = .int .u32 C∧i = .int .i64 k∧k≤M∧Rw wr g (N + 1) zs∧zs.length = N + 1∧Wd zs∧C≤1∧val zs + C * 4294967296 ^ k = val xs + val (ys.take k)∧(∀ j,k≤j→j < N→zs.getD j 0 = xs.getD j 0)∧Kp w wr) (fun _ i _=>M - (intOf i).toNat)
  case atStart=>exact ⟨0,0,zs0,rfl,rfl,Nat.zero_le _,hrz,hlz,hwz,by omega,by simp [val,hvz],fun j _ hj=>hgz j hj,hk2⟩
  case round =>
    clear hrz hwz hvz hgz hlz hk2 hg t0
    obtain ⟨k,C,zs,rfl,rfl,hk,hrow,hzl,hwz,hC,hv,hsam,hkp⟩:=hrel
    obtain ⟨hN,hM,hNM⟩:=HN.out
    obtain ⟨hwx,hwy⟩:=HW.out
    by_cases ck:k < M
    · obtain ⟨b,off,rfl,hc⟩:=HX.out.at (k:=k) (by omega)
      obtain ⟨b',off',rfl,hc'⟩:=HY.out.at (k:=k) (by omega)
      have e1:=kkeep hkp (hc k (by omega))
      have e2:=kkeep hkp (hc' k (by omega))
      have hbg:b≠g:=by have:=cell_lt (hc k (by omega));have:=HG.out;omega
      have hbg':b'≠g:=by have:=cell_lt (hc' k (by omega));have:=HG.out;omega
      have e3:=World.rowIs.cell hrow (i:=k) (by omega)
      have e4:=World.rowIs.frozen hrow k
      have wx:=hwx k
      have wy:=hwy k
      have hzX:=hsam k (Nat.le_refl _) (by omega)
      obtain ⟨S,hS⟩:∃ S:Nat,S = (xs.getD k 0).toNat + (ys.getD k 0).toNat + C:=⟨_,rfl⟩
      have hst:=sum_step zs k C S _ (xs.getD k 0) (ys.getD k 0) (by omega) hzX hS hv
      rw [Nat.add_assoc,← val_take_succ] at hst
      obtain ⟨X,hX⟩:∃ X,X = xs.getD k 0:=⟨_,rfl⟩
      obtain ⟨Y,hY⟩:∃ Y,Y = ys.getD k 0:=⟨_,rfl⟩
      rw [← hX] at e1 wx hS
      rw [← hY] at e2 wy hS
      have had:=add32_ X Y (C:Int) wx wy (by omega)
      have f1:(X + Y + (C:Int)) % 4294967296 = ((S % 4294967296:Nat):Int):=by omega
      have f2:(X + Y + (C:Int)) / 4294967296 = ((S / 4294967296:Nat):Int):=by omega
      rw [f1,f2] at had
      have hC':S / 4294967296≤1:=by omega
      obtain ⟨Z,hZ⟩:∃ Z:Int,Z = ((S % 4294967296:Nat):Int):=⟨_,rfl⟩
      obtain ⟨C',hC2⟩:∃ C':Nat,C' = S / 4294967296:=⟨_,rfl⟩
      rw [← hZ] at had hst
      rw [← hC2] at had hst hC'
      have hsam2:∀ j,k + 1≤j→j < N→(zs.set k Z).getD j 0 = xs.getD j 0:=fun j h1 h2=>by
        rw [← hsam j (by omega) h2];simp [List.getD,show ¬ k = j from by omega]
      have hw2:Wd (zs.set k Z):=hwz.set k Z (by omega)
      have hl2:(zs.set k Z).length = N + 1:=by rw [List.length_set];exact hzl
      have hrs:∀ w':World,Kp wr w'→Rw (w'.setCell ⟨g,k,none⟩ (.int .u32 Z)) g (N + 1) (zs.set k Z):=fun w' h=>(hrow.grown h).set k Z (by omega)
      have hkk:k < N + 1:=by omega
      have i0:(0:Int)≤(k:Int):=by omega
      have i1:(k:Int) < (N:Int):=by omega
      have i2:(k:Int) < (M:Int):=by omega
      have i3:(k:Int) < (N:Int) + 1:=by omega
      have hgw:w.heap.size≤g:=by rw [HG.out];exact Nat.le_refl _
      clear hc hc' HX HY HW HN HG hN hM hX hY hS hv hZ hC2 wx wy hwz hC hwx hwy f1 f2 hzX hsam hzl hrow
      go_wp2
      go_region_held3 (fun w'=>w'.cell? ⟨b,off + k,none⟩ = some (.int .u32 X)∧w'.cell? ⟨b',off' + k,none⟩ = some (.int .u32 Y)) (first | (exact ⟨e1,e2⟩) | (exact ⟨(World.cell?_setCell_far _ _ _ _ (Ne.symm hbg)).trans e1,(World.cell?_setCell_far _ _ _ _ (Ne.symm hbg')).trans e2⟩)) (first | (go_at_call 152;refine (had _).mono ?_;rintro e w' ⟨rfl,rfl⟩))
      have hR:Rw (wr.setCell ⟨g,k,none⟩ (.int .u32 Z)).drew g (N + 1) (zs.set k Z):=hrs wr (Kp.refl _)
      have hK:Kp w (wr.setCell ⟨g,k,none⟩ (.int .u32 Z)).drew:=(hkp.setCell hgw _).drew
      clear hrs hkp e1 e2 e3 e4 had
      go_wp2
      exact ⟨⟨k + 1,C',zs.set k Z,rfl,by go_num,by omega,hR,hl2,hw2,hC',hst,hsam2,hK⟩,by simp [intOf];omega⟩
    · have hkM:k = M:=by omega
      subst hkM
      rw [hM,List.take_length,← hM] at hv
      have i2:¬ ((k:Int) < (k:Int)):=by omega
      have HV:Hid (val zs + C * 4294967296 ^ k = val xs + val ys):=hv
      clear hv HX HY hsam hk ck hN hM hNM hwx hwy
      go_wp2
      go_loopw [6,8] (fun cc i wq=>∃ (j C:Nat) (zs:List Int),cc = .int .u32 C∧i = .int .i64 j∧Rw wq g (N + 1) zs∧zs.length = N + 1∧Wd zs∧C≤1∧val zs + C * 4294967296 ^ j = val xs + val ys∧Kp w wq∧j≤N + 1) (fun _ i _=>N + 2 - (intOf i).toNat)
      case atStart=>exact ⟨k,C,zs,rfl,rfl,hrow,hzl,hwz,hC,HV.out,hkp,by have:=HN.out.2.2;omega⟩
      case round =>
        clear hrow hzl hwz hC HV hkp
        obtain ⟨j,C,zs,rfl,rfl,hrow,hzl,hwz,hC,hv,hkp,hj⟩:=hrel
        obtain ⟨hN,hM,hNM⟩:=HN.out
        obtain ⟨hwx,hwy⟩:=HW.out
        rcases (by omega:C = 0∨C = 1) with rfl | rfl
        · rw [Nat.zero_mul,Nat.add_zero] at hv
          have hA:=hrow.arr (N + 1) (Nat.le_refl _) (by omega)
          rw [List.take_of_length_le (by omega)] at hA
          have htr:=trim_ (some ⟨g,0,none⟩) (N + 1) zs wr hA (by omega) (by omega)
          have hO:Own wr w.heap.size (.slice (some ⟨g,0,none⟩) (tl zs) (N + 1)) (dig (val xs + val ys)):=by
            have h1:=Own.of_row (base:=w.heap.size) (k:=tl zs) hrow (by rw [HG.out];exact Nat.le_refl _) (by have:=tl_le zs;omega) hzl (by unfold maxLen;omega)
            have h2:zs.take (tl zs) = dig (val xs + val ys):=by rw [← hv,← nz_dig zs hwz];rfl
            rw [h2] at h1
            exact h1
          rw [hzl] at htr
          obtain ⟨T,hT⟩:∃ T,T = tl zs:=⟨_,rfl⟩
          rw [← hT] at htr hO
          clear hA hrow hzl hwz hC hv hj hT HW HN HG hN hM hNM hwx hwy i2
          go_wp2_with (first | (go_at_call 120;refine htr.mono ?_;rintro e w' ⟨rfl,rfl⟩))
          exact bodyPost_ret (v:=.slice (some ⟨g,0,none⟩) T (N + 1)) (by simp [results,Tryz.results125,go_sem] <;> simp only [*]) rfl ⟨_,rfl,hO,hkp⟩
        · have hjN:j≤N:=by
            have:=sum_room xs ys zs j hwx hwy (by omega) hv
            omega
          have e3:=World.rowIs.cell hrow (i:=j) (by omega)
          have e4:=World.rowIs.frozen hrow j
          have wz:=hwz j
          obtain ⟨Z0,hZ0⟩:∃ Z0,Z0 = zs.getD j 0:=⟨_,rfl⟩
          obtain ⟨S,hS⟩:∃ S:Nat,S = Z0.toNat + (0:Int).toNat + 1:=⟨_,rfl⟩
          have hst:=sum_step zs j 1 S _ Z0 0 (by omega) hZ0.symm hS hv
          rw [show (0:Int).toNat = 0 from rfl,Nat.zero_mul,Nat.add_zero] at hst
          rw [← hZ0] at wz
          rw [show (0:Int).toNat = 0 from rfl] at hS
          have had:=add32_ Z0 0 1 wz (by omega) (by omega)
          have f1:(Z0 + 0 + 1) % 4294967296 = ((S % 4294967296:Nat):Int):=by omega
          have f2:(Z0 + 0 + 1) / 4294967296 = ((S / 4294967296:Nat):Int):=by omega
          rw [f1,f2] at had
          have hC':S / 4294967296≤1:=by omega
          obtain ⟨Z,hZ⟩:∃ Z:Int,Z = ((S % 4294967296:Nat):Int):=⟨_,rfl⟩
          obtain ⟨C',hC2⟩:∃ C':Nat,C' = S / 4294967296:=⟨_,rfl⟩
          rw [← hZ] at had hst
          rw [← hC2] at had hst hC'
          have hw2:Wd (zs.set j Z):=hwz.set j Z (by omega)
          have hl2:(zs.set j Z).length = N + 1:=by rw [List.length_set];exact hzl
          have hR:Rw (wr.setCell ⟨g,j,none⟩ (.int .u32 Z)) g (N + 1) (zs.set j Z):=hrow.set j Z (by omega)
          have hK:Kp w (wr.setCell ⟨g,j,none⟩ (.int .u32 Z)):=hkp.setCell (by rw [HG.out];exact Nat.le_refl _) _
          have e3':wr.cell? ⟨g,j,none⟩ = some (.int .u32 Z0):=by rw [hZ0];exact e3
          have i0:(0:Int)≤(j:Int):=by omega
          have i3:(j:Int) < (N:Int) + 1:=by omega
          clear e3 hrow hzl hwz hC hv hS hZ hC2 hZ0 wz f1 f2 HW HN HG hN hM hNM hwx hwy i2 hkp
          go_wp2_with (first | (go_at_call 152;refine (had _).mono ?_;rintro e w' ⟨rfl,rfl⟩))
          exact ⟨⟨j + 1,C',zs.set j Z,rfl,by go_num,hR,hl2,hw2,hC',hst,hK,by omega⟩,by simp [intOf];omega⟩
theorem sum_lt (p q:Option Addr) (c d:Nat) (xs ys:List Int) (w:World) (hx:Arr w p xs) (hy:Arr w q ys) (hwx:Wd xs) (hwy:Wd ys) (lx:xs.length < 1099511627775) (hl:ys.length < xs.length) :
    Calls Tryz.prog 125 #[.slice q ys.length d,.slice p xs.length c] w fun e w'=>∃ v,e = .returned v∧Own w' w.heap.size v (dig (val xs + val ys))∧Kp w w':=by
  obtain ⟨N,hN⟩:∃ N,N = xs.length:=⟨_,rfl⟩
  obtain ⟨M,hM⟩:∃ M,M = ys.length:=⟨_,rfl⟩
  have hNM:M≤N:=by omega
  have hmk:∀ w:World,(Instr.makeSlice 25 (.int .i64 ((N:Int) + 1)) (.int .i64 ((N:Int) + 1))).run Tryz.prog w = .ok (.slice (some ⟨w.heap.size,0,none⟩) (N + 1) (N + 1)) (w.alloc (.cells (madeCells #[.int .u32 0] (N + 1)) 72)):=by
    have:=mk32 (N + 1) (by omega)
    simpa using this
  have hk1:Kp w (w.alloc (.cells (madeCells #[.int .u32 0] (N + 1)) 72)):=(Kp.refl w).alloc _
  obtain ⟨w2,hcp,hr2,hkw⟩:=copy32 (w.alloc (.cells (madeCells #[.int .u32 0] (N + 1)) 72)) w.heap.size (N + 1) c p xs _ (World.rowIs_made w (.int .u32 0) (N + 1) 72) (hx.grown hk1) (by omega)
  have hk2:Kp w w2:=hkw w (Nat.le_refl _) hk1
  have hrz:Rw w2 w.heap.size (N + 1) (xs ++ [0]):=World.rowIs.congr hr2 (fun j _=>by
    rw [getD_end]
    by_cases e:j < xs.length
    · rw [if_pos e,if_pos e]
    · rw [if_neg e,if_neg e])
  have hwz:Wd (xs ++ [0]):=hwx.append (Wd.one (by omega))
  have hvz:=val_zero_end xs
  have hgz:∀ j,j < N→(xs ++ [0]).getD j 0 = xs.getD j 0:=fun j hj=>by rw [getD_end,if_pos (by omega)]
  have hlz:(xs ++ [0]).length = N + 1:=by simp;omega
  obtain ⟨zs0,hz0⟩:∃ zs0,zs0 = xs ++ [0]:=⟨_,rfl⟩
  rw [← hz0] at hrz hwz hvz hgz hlz
  rw [← hN] at hcp ⊢
  rw [← hM]
  have t0:(M:Int) < (N:Int):=by omega
  have hb1:N < 1099511627775:=by omega
  have HX:Hid (Arr w p xs):=hx
  have HY:Hid (Arr w q ys):=hy
  have HW:Hid (Wd xs∧Wd ys):=⟨hwx,hwy⟩
  have HN:Hid (N = xs.length∧M = ys.length∧M≤N):=⟨hN,hM,hNM⟩
  obtain ⟨g,hg⟩:∃ g,g = w.heap.size:=⟨_,rfl⟩
  rw [← hg] at hrz
  have HG:Hid (g = w.heap.size):=hg
  clear hx hy hwx hwy lx hl hN hM hkw hr2 hk1 hz0
  go_enter Tryz.func125,Tryz.ntmps125
  go_wp2
  rw [← hg]
  clear hmk hcp
  go_loopw [6,25] (fun cc i wr=>∃ (k C:Nat) (zs:List Int),cc = .int .u32 C∧i = .int .i64 k∧k≤M∧Rw wr g (N + 1) zs∧zs.length = N + 1∧Wd zs∧C≤1∧val zs + C * 4294967296 ^ k = val xs + val (ys.take k)∧(∀ j,k≤j→j < N→zs.getD j 0 = xs.getD j 0)∧Kp w wr) (fun _ i _=>M - (intOf i).toNat)
  case atStart=>exact ⟨0,0,zs0,rfl,rfl,Nat.zero_le _,hrz,hlz,hwz,by omega,by simp [val,hvz],fun j _ hj=>hgz j hj,hk2⟩
  case round =>
    clear hrz hwz hvz hgz hlz hk2 hg t0
    obtain ⟨k,C,zs,rfl,rfl,hk,hrow,hzl,hwz,hC,hv,hsam,hkp⟩:=hrel
    obtain ⟨hN,hM,hNM⟩:=HN.out
    obtain ⟨hwx,hwy⟩:=HW.out
    by_cases ck:k < M
    · obtain ⟨b,off,rfl,hc⟩:=HX.out.at (k:=k) (by omega)
      obtain ⟨b',off',rfl,hc'⟩:=HY.out.at (k:=k) (by omega)
      have e1:=kkeep hkp (hc k (by omega))
      have e2:=kkeep hkp (hc' k (by omega))
      have hbg:b≠g:=by have:=cell_lt (hc k (by omega));have:=HG.out;omega
      have hbg':b'≠g:=by have:=cell_lt (hc' k (by omega));have:=HG.out;omega
      have e3:=World.rowIs.cell hrow (i:=k) (by omega)
      have e4:=World.rowIs.frozen hrow k
      have wx:=hwx k
      have wy:=hwy k
      have hzX:=hsam k (Nat.le_refl _) (by omega)
      obtain ⟨S,hS⟩:∃ S:Nat,S = (xs.getD k 0).toNat + (ys.getD k 0).toNat + C:=⟨_,rfl⟩
      have hst:=sum_step zs k C S _ (xs.getD k 0) (ys.getD k 0) (by omega) hzX hS hv
      rw [Nat.add_assoc,← val_take_succ] at hst
      obtain ⟨X,hX⟩:∃ X,X = xs.getD k 0:=⟨_,rfl⟩
      obtain ⟨Y,hY⟩:∃ Y,Y = ys.getD k 0:=⟨_,rfl⟩
      rw [← hX] at e1 wx hS
      rw [← hY] at e2 wy hS
      have had:=add32_ X Y (C:Int) wx wy (by omega)
      have f1:(X + Y + (C:Int)) % 4294967296 = ((S % 4294967296:Nat):Int):=by omega
      have f2:(X + Y + (C:Int)) / 4294967296 = ((S / 4294967296:Nat):Int):=by omega
      rw [f1,f2] at had
      have hC':S / 4294967296≤1:=by omega
      obtain ⟨Z,hZ⟩:∃ Z:Int,Z = ((S % 4294967296:Nat):Int):=⟨_,rfl⟩
      obtain ⟨C',hC2⟩:∃ C':Nat,C' = S / 4294967296:=⟨_,rfl⟩
      rw [← hZ] at had hst
      rw [← hC2] at had hst hC'
      have hsam2:∀ j,k + 1≤j→j < N→(zs.set k Z).getD j 0 = xs.getD j 0:=fun j h1 h2=>by
        rw [← hsam j (by omega) h2];simp [List.getD,show ¬ k = j from by omega]
      have hw2:Wd (zs.set k Z):=hwz.set k Z (by omega)
      have hl2:(zs.set k Z).length = N + 1:=by rw [List.length_set];exact hzl
      have hrs:∀ w':World,Kp wr w'→Rw (w'.setCell ⟨g,k,none⟩ (.int .u32 Z)) g (N + 1) (zs.set k Z):=fun w' h=>(hrow.grown h).set k Z (by omega)
      have hkk:k < N + 1:=by omega
      have i0:(0:Int)≤(k:Int):=by omega
      have i1:(k:Int) < (N:Int):=by omega
      have i2:(k:Int) < (M:Int):=by omega
      have i3:(k:Int) < (N:Int) + 1:=by omega
      have hgw:w.heap.size≤g:=by rw [HG.out];exact Nat.le_refl _
      clear hc hc' HX HY HW HN HG hN hM hX hY hS hv hZ hC2 wx wy hwz hC hwx hwy f1 f2 hzX hsam hzl hrow
      go_wp2
      go_region_held3 (fun w'=>w'.cell? ⟨b,off + k,none⟩ = some (.int .u32 X)∧w'.cell? ⟨b',off' + k,none⟩ = some (.int .u32 Y)) (first | (exact ⟨e1,e2⟩) | (exact ⟨(World.cell?_setCell_far _ _ _ _ (Ne.symm hbg)).trans e1,(World.cell?_setCell_far _ _ _ _ (Ne.symm hbg')).trans e2⟩)) (first | (go_at_call 152;refine (had _).mono ?_;rintro e w' ⟨rfl,rfl⟩))
      have hR:Rw (wr.setCell ⟨g,k,none⟩ (.int .u32 Z)).drew g (N + 1) (zs.set k Z):=hrs wr (Kp.refl _)
      have hK:Kp w (wr.setCell ⟨g,k,none⟩ (.int .u32 Z)).drew:=(hkp.setCell hgw _).drew
      clear hrs hkp e1 e2 e3 e4 had
      go_wp2
      exact ⟨⟨k + 1,C',zs.set k Z,rfl,by go_num,by omega,hR,hl2,hw2,hC',hst,hsam2,hK⟩,by simp [intOf];omega⟩
    · have hkM:k = M:=by omega
      subst hkM
      rw [hM,List.take_length,← hM] at hv
      have i2:¬ ((k:Int) < (k:Int)):=by omega
      have HV:Hid (val zs + C * 4294967296 ^ k = val xs + val ys):=hv
      clear hv HX HY hsam hk ck hN hM hNM hwx hwy
      go_wp2
      go_loopw [6,8] (fun cc i wq=>∃ (j C:Nat) (zs:List Int),cc = .int .u32 C∧i = .int .i64 j∧Rw wq g (N + 1) zs∧zs.length = N + 1∧Wd zs∧C≤1∧val zs + C * 4294967296 ^ j = val xs + val ys∧Kp w wq∧j≤N + 1) (fun _ i _=>N + 2 - (intOf i).toNat)
      case atStart=>exact ⟨k,C,zs,rfl,rfl,hrow,hzl,hwz,hC,HV.out,hkp,by have:=HN.out.2.2;omega⟩
      case round =>
        clear hrow hzl hwz hC HV hkp
        obtain ⟨j,C,zs,rfl,rfl,hrow,hzl,hwz,hC,hv,hkp,hj⟩:=hrel
        obtain ⟨hN,hM,hNM⟩:=HN.out
        obtain ⟨hwx,hwy⟩:=HW.out
        rcases (by omega:C = 0∨C = 1) with rfl | rfl
        · rw [Nat.zero_mul,Nat.add_zero] at hv
          have hA:=hrow.arr (N + 1) (Nat.le_refl _) (by omega)
          rw [List.take_of_length_le (by omega)] at hA
          have htr:=trim_ (some ⟨g,0,none⟩) (N + 1) zs wr hA (by omega) (by omega)
          have hO:Own wr w.heap.size (.slice (some ⟨g,0,none⟩) (tl zs) (N + 1)) (dig (val xs + val ys)):=by
            have h1:=Own.of_row (base:=w.heap.size) (k:=tl zs) hrow (by rw [HG.out];exact Nat.le_refl _) (by have:=tl_le zs;omega) hzl (by unfold maxLen;omega)
            have h2:zs.take (tl zs) = dig (val xs + val ys):=by rw [← hv,← nz_dig zs hwz];rfl
            rw [h2] at h1
            exact h1
          rw [hzl] at htr
          obtain ⟨T,hT⟩:∃ T,T = tl zs:=⟨_,rfl⟩
          rw [← hT] at htr hO
          clear hA hrow hzl hwz hC hv hj hT HW HN HG hN hM hNM hwx hwy i2
          go_wp2_with (first | (go_at_call 120;refine htr.mono ?_;rintro e w' ⟨rfl,rfl⟩))
          exact bodyPost_ret (v:=.slice (some ⟨g,0,none⟩) T (N + 1)) (by simp [results,Tryz.results125,go_sem] <;> simp only [*]) rfl ⟨_,rfl,hO,hkp⟩
        · have hjN:j≤N:=by
            have:=sum_room xs ys zs j hwx hwy (by omega) hv
            omega
          have e3:=World.rowIs.cell hrow (i:=j) (by omega)
          have e4:=World.rowIs.frozen hrow j
          have wz:=hwz j
          obtain ⟨Z0,hZ0⟩:∃ Z0,Z0 = zs.getD j 0:=⟨_,rfl⟩
          obtain ⟨S,hS⟩:∃ S:Nat,S = Z0.toNat + (0:Int).toNat + 1:=⟨_,rfl⟩
          have hst:=sum_step zs j 1 S _ Z0 0 (by omega) hZ0.symm hS hv
          rw [show (0:Int).toNat = 0 from rfl,Nat.zero_mul,Nat.add_zero] at hst
          rw [← hZ0] at wz
          rw [show (0:Int).toNat = 0 from rfl] at hS
          have had:=add32_ Z0 0 1 wz (by omega) (by omega)
          have f1:(Z0 + 0 + 1) % 4294967296 = ((S % 4294967296:Nat):Int):=by omega
          have f2:(Z0 + 0 + 1) / 4294967296 = ((S / 4294967296:Nat):Int):=by omega
          rw [f1,f2] at had
          have hC':S / 4294967296≤1:=by omega
          obtain ⟨Z,hZ⟩:∃ Z:Int,Z = ((S % 4294967296:Nat):Int):=⟨_,rfl⟩
          obtain ⟨C',hC2⟩:∃ C':Nat,C' = S / 4294967296:=⟨_,rfl⟩
          rw [← hZ] at had hst
          rw [← hC2] at had hst hC'
          have hw2:Wd (zs.set j Z):=hwz.set j Z (by omega)
          have hl2:(zs.set j Z).length = N + 1:=by rw [List.length_set];exact hzl
          have hR:Rw (wr.setCell ⟨g,j,none⟩ (.int .u32 Z)) g (N + 1) (zs.set j Z):=hrow.set j Z (by omega)
          have hK:Kp w (wr.setCell ⟨g,j,none⟩ (.int .u32 Z)):=hkp.setCell (by rw [HG.out];exact Nat.le_refl _) _
          have e3':wr.cell? ⟨g,j,none⟩ = some (.int .u32 Z0):=by rw [hZ0];exact e3
          have i0:(0:Int)≤(j:Int):=by omega
          have i3:(j:Int) < (N:Int) + 1:=by omega
          clear e3 hrow hzl hwz hC hv hS hZ hC2 hZ0 wz f1 f2 HW HN HG hN hM hNM hwx hwy i2 hkp
          go_wp2_with (first | (go_at_call 152;refine (had _).mono ?_;rintro e w' ⟨rfl,rfl⟩))
          exact ⟨⟨j + 1,C',zs.set j Z,rfl,by go_num,hR,hl2,hw2,hC',hst,hK,by omega⟩,by simp [intOf];omega⟩
theorem Arr.take {w:World} {p:Option Addr} {xs:List Int} (h:Arr w p xs) (k:Nat):Arr w p (xs.take k):=by
  rcases h with h | ⟨b,off,h1,h2⟩
  · subst h;exact Or.inl (by simp)
  · refine Or.inr ⟨b,off,h1,fun j hj=>?_⟩
    have hj2:j < k∧j < xs.length:=by simp at hj;omega
    rw [h2 j hj2.2];simp [List.getD,hj2.1]
theorem sum_any (p q:Option Addr) (c d:Nat) (xs ys:List Int) (w:World) (hx:Arr w p xs) (hy:Arr w q ys) (hwx:Wd xs) (hwy:Wd ys) (lx:xs.length < 1099511627775) (ly:ys.length < 1099511627775) :
    Calls Tryz.prog 125 #[.slice p xs.length c,.slice q ys.length d] w fun e w'=>∃ v,e = .returned v∧Own w' w.heap.size v (dig (val xs + val ys))∧Kp w w':=by
  by_cases h:ys.length≤xs.length
  · exact sum_ge p q c d xs ys w hx hy hwx hwy lx h
  · rw [Nat.add_comm]
    exact sum_lt q p d c ys xs w hy hx hwy hwx ly (by omega)
theorem nadd_ (p q:Option Addr) (c d:Nat) (xs ys:List Int) (w:World) (hx:Arr w p xs) (hy:Arr w q ys) (hwx:Wd xs) (hwy:Wd ys) (lx:xs.length < 1099511627775) (ly:ys.length < 1099511627775) (hc:xs.length≤c) (hd:ys.length≤d) :
    Calls Tryz.prog 95 #[.slice p xs.length c,.slice q ys.length d] w fun e w'=>∃ v,e = .returned (.tuple #[v,.int .i64 (addN (val xs) (val ys)).2])∧Own w' w.heap.size v (addN (val xs) (val ys)).1∧Kp w w':=by
  have h1:=trim_ p c xs w hx (by omega) hc
  have h2:=trim_ q d ys w hy (by omega) hd
  have h3:=tooLong_ p (tl xs) c
  have h4:=tooLong_ q (tl ys) d
  have h5:=sum_any p q c d (nz xs) (nz ys) w (hx.take _) (hy.take _) (hwx.take _) (hwy.take _) (by rw [nz_length];have:=tl_le xs;omega) (by rw [nz_length];have:=tl_le ys;omega)
  rw [nz_length,nz_length,val_nz,val_nz] at h5
  have e1:=tl_len xs hwx
  have e2:=tl_len ys hwy
  obtain ⟨N,hN⟩:∃ N,N = xs.length:=⟨_,rfl⟩
  obtain ⟨M,hM⟩:∃ M,M = ys.length:=⟨_,rfl⟩
  obtain ⟨S,hS⟩:∃ S,S = tl xs:=⟨_,rfl⟩
  obtain ⟨T,hT⟩:∃ T,T = tl ys:=⟨_,rfl⟩
  rw [← hN,← hS] at h1
  rw [← hM,← hT] at h2
  rw [← hS] at h3 h5 e1
  rw [← hT] at h4 h5 e2
  rw [← hN,← hM]
  by_cases c1:16384 < S
  · rw [decide_eq_true c1] at h3
    have e3:addN (val xs) (val ys) = ([],2):=by unfold addN;rw [if_pos (Or.inl (by omega))]
    rw [e3]
    clear hx hy hwx hwy lx ly hc hd hN hM hS hT h4 h5 c1 e1 e2 e3
    go_enter Tryz.func95,Tryz.ntmps95
    go_wp2_with fail
    refine h1.mono ?_;rintro e w' ⟨rfl,rfl⟩
    go_wp2_with fail
    refine h2.mono ?_;rintro e w' ⟨rfl,rfl⟩
    go_wp2_with fail
    refine (h3 _).mono ?_;rintro e w' ⟨rfl,rfl⟩
    go_wp2
    exact bodyPost_ret (v:=.tuple #[.slice none 0 0,.int .i64 2]) (by simp [results,Tryz.results95,go_sem] <;> simp only [*]) rfl ⟨_,rfl,Own.nil _ _,Kp.refl _⟩
  rw [decide_eq_false c1] at h3
  by_cases c2:16384 < T
  · rw [decide_eq_true c2] at h4
    have e3:addN (val xs) (val ys) = ([],2):=by unfold addN;rw [if_pos (Or.inr (by omega))]
    rw [e3]
    clear hx hy hwx hwy lx ly hc hd hN hM hS hT h5 c1 c2 e1 e2 e3
    go_enter Tryz.func95,Tryz.ntmps95
    go_wp2_with fail
    refine h1.mono ?_;rintro e w' ⟨rfl,rfl⟩
    go_wp2_with fail
    refine h2.mono ?_;rintro e w' ⟨rfl,rfl⟩
    go_wp2_with fail
    refine (h3 _).mono ?_;rintro e w' ⟨rfl,rfl⟩
    go_wp2_with fail
    refine (h4 _).mono ?_;rintro e w' ⟨rfl,rfl⟩
    go_wp2
    exact bodyPost_ret (v:=.tuple #[.slice none 0 0,.int .i64 2]) (by simp [results,Tryz.results95,go_sem] <;> simp only [*]) rfl ⟨_,rfl,Own.nil _ _,Kp.refl _⟩
  rw [decide_eq_false c2] at h4
  have e0:addN (val xs) (val ys) = if 16384 < len32 (val xs + val ys) then ([],2) else (dig (val xs + val ys),0):=by unfold addN;rw [if_neg (by omega)]
  obtain ⟨K,hK⟩:∃ K,K = val xs + val ys:=⟨_,rfl⟩
  rw [e0,← hK]
  rw [← hK] at h5
  clear hx hy hwx hwy hc hd hN hM hS hT c1 c2 e0 hK e1 e2
  by_cases c3:16384 < len32 K
  · rw [if_pos c3]
    go_enter Tryz.func95,Tryz.ntmps95
    go_wp2_with fail
    refine h1.mono ?_;rintro e w' ⟨rfl,rfl⟩
    go_wp2_with fail
    refine h2.mono ?_;rintro e w' ⟨rfl,rfl⟩
    go_wp2_with fail
    refine (h3 _).mono ?_;rintro e w' ⟨rfl,rfl⟩
    go_wp2_with fail
    refine (h4 _).mono ?_;rintro e w' ⟨rfl,rfl⟩
    go_wp2_with fail
    refine h5.mono ?_;rintro e w1 ⟨v,rfl,hO,hkp⟩
    obtain ⟨p1,cc,rfl,hA,_⟩:=hO.arr
    have hf:=unlessLong_ p1 (dig K).length cc
    have c4:(16384 < (dig K).length):=c3
    rw [if_pos c4] at hf
    clear c4
    obtain ⟨D,hD⟩:∃ D,D = (dig K).length:=⟨_,rfl⟩
    have hO':Own w1 w'.heap.size (.slice p1 D cc) (dig K):=by rw [hD];exact hO
    rw [← hD] at hf ⊢
    clear hA h1 h2 h3 h4 h5 hD c3 hO
    go_wp2_with fail
    refine (hf _).mono ?_;rintro e w2 ⟨rfl,rfl⟩
    go_wp2
    exact bodyPost_ret (v:=.tuple #[.slice none 0 0,.int .i64 2]) (by simp [results,Tryz.results95,go_sem] <;> simp only [*]) rfl ⟨_,rfl,Own.nil _ _,hkp⟩
  · rw [if_neg c3]
    go_enter Tryz.func95,Tryz.ntmps95
    go_wp2_with fail
    refine h1.mono ?_;rintro e w' ⟨rfl,rfl⟩
    go_wp2_with fail
    refine h2.mono ?_;rintro e w' ⟨rfl,rfl⟩
    go_wp2_with fail
    refine (h3 _).mono ?_;rintro e w' ⟨rfl,rfl⟩
    go_wp2_with fail
    refine (h4 _).mono ?_;rintro e w' ⟨rfl,rfl⟩
    go_wp2_with fail
    refine h5.mono ?_;rintro e w1 ⟨v,rfl,hO,hkp⟩
    obtain ⟨p1,cc,rfl,hA,_⟩:=hO.arr
    have hf:=unlessLong_ p1 (dig K).length cc
    have c4:¬ (16384 < (dig K).length):=c3
    rw [if_neg c4] at hf
    clear c4
    obtain ⟨D,hD⟩:∃ D,D = (dig K).length:=⟨_,rfl⟩
    have hO':Own w1 w'.heap.size (.slice p1 D cc) (dig K):=by rw [hD];exact hO
    rw [← hD] at hf ⊢
    clear hA h1 h2 h3 h4 h5 hD c3 hO
    go_wp2_with fail
    refine (hf _).mono ?_;rintro e w2 ⟨rfl,rfl⟩
    go_wp2
    exact bodyPost_ret (v:=.tuple #[.slice p1 D cc,.int .i64 0]) (by simp [results,Tryz.results95,go_sem] <;> simp only [*]) rfl ⟨_,rfl,hO',hkp⟩

end Go.Proofs.YtnileplkkmhdgaaGreatDoor
