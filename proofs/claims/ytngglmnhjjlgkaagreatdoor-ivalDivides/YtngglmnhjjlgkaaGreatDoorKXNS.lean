import Derived.Test.YtngglmnhjjlgkaaGreatDoorKXCO
import Derived.Test.YtngglmnhjjlgkaaGreatDoorKXPR
import Derived.Lib.LaidTab
set_option maxHeartbeats 2000000
set_option maxRecDepth 20000
namespace Go.Proofs.YtngglmnhjjlgkaaGreatDoor
open Go.RowKit
theorem fresh_ (p:Option Addr) (c:Nat) (xs:List Int) (w:World) (hx:Arr w p xs) (lx:xs.length≤1099511627776) :
  Calls Tryz.prog 168 #[.slice p xs.length c] w fun e w'=>∃ g,e = .returned (.slice (some ⟨g,0,none⟩) xs.length xs.length)∧w.heap.size≤g∧Rw w' g xs.length xs∧Kp w w':=by
 obtain ⟨N,hN⟩:∃ N,N = xs.length:=⟨_,rfl⟩
 have hmk:=mk32 N (by omega)
 have hk1:Kp w (w.alloc (.cells (madeCells #[.int .u32 0] N) 107)):=(Kp.refl w).alloc _
 obtain ⟨w2,hcp,hr2,hkw⟩:=copy32 (w.alloc (.cells (madeCells #[.int .u32 0] N) 107)) w.heap.size N c p xs _ (World.rowIs_made w (.int .u32 0) N 107) (hx.grown hk1) (by omega)
 have hk2:Kp w w2:=hkw w (Nat.le_refl _) hk1
 have hrz:Rw w2 w.heap.size N xs:=World.rowIs.congr hr2 (fun j hj=>by rw [if_pos (by omega)])
 rw [← hN] at hcp ⊢
 clear hx lx hN hkw hr2 hk1
 go_enter Tryz.func168,Tryz.ntmps168
 go_wp2
 exact bodyPost_ret (v:=.slice (some ⟨w.heap.size,0,none⟩) N N) (by simp [results,Tryz.results168,go_sem] <;> simp only [*]) rfl ⟨_,rfl,Nat.le_refl _,hrz,hk2⟩
theorem diff_ (p q:Option Addr) (c d:Nat) (xs ys:List Int) (w:World) (hx:Arr w p xs) (hy:Arr w q ys) (hwx:Wd xs) (hwy:Wd ys) (lx:xs.length < 1099511627775) (hl:ys.length≤xs.length) (hle:val ys≤val xs) :
  Calls Tryz.prog 147 #[.slice p xs.length c,.slice q ys.length d] w fun e w'=>∃ v,e = .returned v∧Own w' w.heap.size v (dig (val xs - val ys))∧Kp w w':=by
 have hfr:=fresh_ p c xs w hx (by omega)
 obtain ⟨N,hN⟩:∃ N,N = xs.length:=⟨_,rfl⟩
 obtain ⟨M,hM⟩:∃ M,M = ys.length:=⟨_,rfl⟩
 have hNM:M≤N:=by omega
 rw [← hN] at hfr ⊢
 rw [← hM]
 have hb1:N < 1099511627775:=by omega
 have HX:Hid (Arr w p xs):=hx
 have HY:Hid (Arr w q ys):=hy
 have HW:Hid (Wd xs∧Wd ys∧val ys≤val xs):=⟨hwx,hwy,hle⟩
 have HN:Hid (N = xs.length∧M = ys.length∧M≤N):=⟨hN,hM,hNM⟩
 clear hx hy hwx hwy lx hl hN hM hle
 go_enter Tryz.func147,Tryz.ntmps147
 go_wp2_with fail
 refine hfr.mono ?_;rintro e w2 ⟨g,rfl,hgw,hrz,hk2⟩
 clear hfr
 have HG:Hid (w.heap.size≤g):=hgw
 clear hgw
 go_wp2
 go_loopw [6,13] (fun cc i wr=>∃ (k C:Nat) (zs:List Int),cc = .int .u32 C∧i = .int .i64 k∧k≤M∧Rw wr g N zs∧zs.length = N∧Wd zs∧C≤1∧val zs + val (ys.take k) = val xs + C * 4294967296 ^ k∧(∀ j,k≤j→j < N→zs.getD j 0 = xs.getD j 0)∧Kp w wr) (fun _ i _=>M - (intOf i).toNat)
 case atStart=>exact ⟨0,0,xs,rfl,rfl,Nat.zero_le _,hrz,HN.out.1.symm,HW.out.1,by omega,by simp [val],fun j _ _=>rfl,hk2⟩
 case round =>
  clear hrz hk2
  obtain ⟨k,C,zs,rfl,rfl,hk,hrow,hzl,hwz,hC,hv,hsam,hkp⟩:=hrel
  obtain ⟨hN,hM,hNM⟩:=HN.out
  obtain ⟨hwx,hwy,hle⟩:=HW.out
  by_cases ck:k < M
  ·obtain ⟨b,off,rfl,hc⟩:=HX.out.at (k:=k) (by omega)
   obtain ⟨b',off',rfl,hc'⟩:=HY.out.at (k:=k) (by omega)
   have e1:=kkeep hkp (hc k (by omega))
   have e2:=kkeep hkp (hc' k (by omega))
   have hbg:b≠g:=by have:=cell_lt (hc k (by omega));have:=HG.out;omega
   have hbg':b'≠g:=by have:=cell_lt (hc' k (by omega));have:=HG.out;omega
   have e3:=World.rowIs.cell hrow (i:=k) (by omega)
   have e4:=World.rowIs.frozen hrow k
   have wx:=hwx k
   have wy:=hwy k
   have hzX:=hsam k (Nat.le_refl _) (by omega)
   have hst:=fun (C' Z:Nat) h=>diff_step zs k C C' Z _ _ (xs.getD k 0) (ys.getD k 0) (by omega) hzX h hv
   rw [← val_take_succ] at hst
   obtain ⟨X,hX⟩:∃ X:Nat,(X:Int) = xs.getD k 0:=⟨(xs.getD k 0).toNat,by omega⟩
   obtain ⟨Y,hY⟩:∃ Y:Nat,(Y:Int) = ys.getD k 0:=⟨(ys.getD k 0).toNat,by omega⟩
   rw [← hX] at e1 wx hst
   rw [← hY] at e2 wy hst
   simp only [Int.toNat_natCast] at hst
   have had:=sub32_ X Y C (by omega) (by omega) hC
   obtain ⟨Z,hZ⟩:∃ Z:Nat,Z = (X + 8589934592 - Y - C) % 4294967296:=⟨_,rfl⟩
   obtain ⟨C',hC2⟩:∃ C':Nat,C' = if X < Y + C then 1 else 0:=⟨_,rfl⟩
   rw [← hZ,← hC2] at had
   have hC':C'≤1:=by rw [hC2];split <;> omega
   have hs2:=hst C' Z (by rw [hC2,hZ];split <;> omega)
   have hsam2:∀ j,k + 1≤j→j < N→(zs.set k (Z:Int)).getD j 0 = xs.getD j 0:=fun j h1 h2=>by
    rw [← hsam j (by omega) h2];simp [List.getD,show ¬ k = j from by omega]
   have hw2:Wd (zs.set k (Z:Int)):=hwz.set k Z (by omega)
   have hl2:(zs.set k (Z:Int)).length = N:=by rw [List.length_set];exact hzl
   have hrs:∀ w':World,Kp wr w'→Rw (w'.setCell ⟨g,k,none⟩ (.int .u32 (Z:Int))) g N (zs.set k (Z:Int)):=fun w' h=>(hrow.grown h).set k Z (by omega)
   have hkk:k < N:=by omega
   have i0:(0:Int)≤(k:Int):=by omega
   have i1:(k:Int) < (N:Int):=by omega
   have i2:(k:Int) < (M:Int):=by omega
   have hgw:=HG.out
   clear hc hc' HX HY HW HN HG hN hM hX hY hv hZ hC2 wx wy hwz hC hwx hwy hzX hsam hzl hrow hst hle
   go_wp2
   go_region_held3 (fun w'=>w'.cell? ⟨b,off + k,none⟩ = some (.int .u32 (X:Int))∧w'.cell? ⟨b',off' + k,none⟩ = some (.int .u32 (Y:Int))) (first | (exact ⟨e1,e2⟩) | (exact ⟨(World.cell?_setCell_far _ _ _ _ (Ne.symm hbg)).trans e1,(World.cell?_setCell_far _ _ _ _ (Ne.symm hbg')).trans e2⟩)) (first | (go_at_call 169;refine (had _).mono ?_;rintro e w' ⟨rfl,rfl⟩))
   have hR:Rw (wr.setCell ⟨g,k,none⟩ (.int .u32 (Z:Int))).drew g N (zs.set k (Z:Int)):=hrs wr (Kp.refl _)
   have hK:Kp w (wr.setCell ⟨g,k,none⟩ (.int .u32 (Z:Int))).drew:=(hkp.setCell hgw _).drew
   clear hrs hkp e1 e2 e3 e4 had
   go_wp2
   exact ⟨⟨k + 1,C',zs.set k (Z:Int),rfl,by go_num,by omega,hR,hl2,hw2,hC',hs2,hsam2,hK⟩,by simp [intOf];omega⟩
  ·have hkM:k = M:=by omega
   subst hkM
   rw [hM,List.take_length,← hM] at hv
   have i2:¬ ((k:Int) < (k:Int)):=by omega
   have HV:Hid (val zs + val ys = val xs + C * 4294967296 ^ k):=hv
   clear hv HX HY hsam hk ck hN hM hNM hwx hwy hle
   go_wp2
   go_loopw [6,8] (fun cc i wq=>∃ (j C:Nat) (zs:List Int),cc = .int .u32 C∧i = .int .i64 j∧Rw wq g N zs∧zs.length = N∧Wd zs∧C≤1∧val zs + val ys = val xs + C * 4294967296 ^ j∧Kp w wq∧j≤N) (fun _ i _=>N + 1 - (intOf i).toNat)
   case atStart=>exact ⟨k,C,zs,rfl,rfl,hrow,hzl,hwz,hC,HV.out,hkp,by have:=HN.out.2.2;omega⟩
   case round =>
    clear hrow hzl hwz hC HV hkp
    obtain ⟨j,C,zs,rfl,rfl,hrow,hzl,hwz,hC,hv,hkp,hj⟩:=hrel
    obtain ⟨hN,hM,hNM⟩:=HN.out
    obtain ⟨hwx,hwy,hle⟩:=HW.out
    rcases (by omega:C = 0∨C = 1) with rfl | rfl
    ·rw [Nat.zero_mul,Nat.add_zero] at hv
     have hv2:val zs = val xs - val ys:=by omega
     have hA:=hrow.arr N (Nat.le_refl _) (by omega)
     rw [List.take_of_length_le (by omega)] at hA
     have htr:=trim_ (some ⟨g,0,none⟩) N zs wr hA (by omega) (by omega)
     have hO:Own wr w.heap.size (.slice (some ⟨g,0,none⟩) (tl zs) N) (dig (val xs - val ys)):=by
      have h1:=Own.of_row (base:=w.heap.size) (k:=tl zs) hrow HG.out (by have:=tl_le zs;omega) hzl (by unfold maxLen;omega)
      have h2:zs.take (tl zs) = dig (val xs - val ys):=by rw [← hv2,← nz_dig zs hwz];rfl
      rw [h2] at h1
      exact h1
     rw [hzl] at htr
     obtain ⟨T,hT⟩:∃ T,T = tl zs:=⟨_,rfl⟩
     rw [← hT] at htr hO
     clear hA hrow hzl hwz hC hv hj hT HW HN HG hN hM hNM hwx hwy i2 hle hv2
     go_wp2_with (first | (go_at_call 126;refine htr.mono ?_;rintro e w' ⟨rfl,rfl⟩))
     exact bodyPost_ret (v:=.slice (some ⟨g,0,none⟩) T N) (by simp [results,Tryz.results147,go_sem] <;> simp only [*]) rfl ⟨_,rfl,hO,hkp⟩
    ·have hjN:j < N:=diff_room zs xs ys j N hzl hwz hle hv
     have e3:=World.rowIs.cell hrow (i:=j) (by omega)
     have e4:=World.rowIs.frozen hrow j
     have wz:=hwz j
     obtain ⟨Z0,hZ0⟩:∃ Z0:Nat,(Z0:Int) = zs.getD j 0:=⟨(zs.getD j 0).toNat,by omega⟩
     have hst:=fun (C' Z:Nat) h=>diff_step zs j 1 C' Z _ _ (Z0:Int) 0 (by omega) hZ0.symm h hv
     simp only [Int.toNat_natCast] at hst
     obtain ⟨Z,hZ⟩:∃ Z:Nat,Z = (Z0 + 8589934592 - 0 - 1) % 4294967296:=⟨_,rfl⟩
     obtain ⟨C',hC2⟩:∃ C':Nat,C' = if Z0 < 0 + 1 then 1 else 0:=⟨_,rfl⟩
     have had:∀ w:World,Calls Tryz.prog 169 #[.int .u32 (Z0:Int),.int .u32 0,.int .u32 1] w fun e w'=>e = .returned (.tuple #[.int .u32 (Z:Int),.int .u32 (C':Int)])∧w' = w:=by
      rw [hZ,hC2];exact sub32_ Z0 0 1 (by omega) (by omega) (by omega)
     have hC':C'≤1:=by rw [hC2];split <;> omega
     have hs2:=hst C' Z (by rw [show (0:Int).toNat = 0 from rfl,hC2,hZ];split <;> omega)
     rw [show (0:Int).toNat = 0 from rfl,Nat.zero_mul,Nat.add_zero] at hs2
     have hw2:Wd (zs.set j (Z:Int)):=hwz.set j Z (by omega)
     have hl2:(zs.set j (Z:Int)).length = N:=by rw [List.length_set];exact hzl
     have hR:Rw (wr.setCell ⟨g,j,none⟩ (.int .u32 (Z:Int))) g N (zs.set j (Z:Int)):=hrow.set j Z (by omega)
     have hK:Kp w (wr.setCell ⟨g,j,none⟩ (.int .u32 (Z:Int))):=hkp.setCell HG.out _
     have e3':wr.cell? ⟨g,j,none⟩ = some (.int .u32 (Z0:Int)):=by rw [hZ0];exact e3
     have i0:(0:Int)≤(j:Int):=by omega
     have i3:(j:Int) < (N:Int):=by omega
     clear e3 hrow hzl hwz hC hv hZ hC2 hZ0 wz HW HN HG hN hM hNM hwx hwy i2 hkp hst hle
     go_wp2_with (first | (go_at_call 169;refine (had _).mono ?_;rintro e w' ⟨rfl,rfl⟩))
     exact ⟨⟨j + 1,C',zs.set j (Z:Int),rfl,by go_num,hR,hl2,hw2,hC',hs2,hK,by omega⟩,by simp [intOf];omega⟩
theorem nsub_ (p q:Option Addr) (c d:Nat) (xs ys:List Int) (w:World) (hx:Arr w p xs) (hy:Arr w q ys) (hwx:Wd xs) (hwy:Wd ys) (lx:xs.length < 1099511627775) (ly:ys.length < 1099511627775) (hc:xs.length≤c) (hd:ys.length≤d) :
  Calls Tryz.prog 114 #[.slice p xs.length c,.slice q ys.length d] w fun e w'=>∃ v,e = .returned (.tuple #[v,.int .i64 (subN (val xs) (val ys)).2])∧Own w' w.heap.size v (subN (val xs) (val ys)).1∧Kp w w':=by
 have h1:=trim_ p c xs w hx (by omega) hc
 have h2:=trim_ q d ys w hy (by omega) hd
 have lS:=tl_le xs
 have lT:=tl_le ys
 have h3:=ncmp_ p q c d (nz xs) (nz ys) w (hx.take _) (hy.take _) (hwx.take _) (hwy.take _) (by rw [nz_length];omega) (by rw [nz_length];omega) (by rw [nz_length];omega) (by rw [nz_length];omega)
 have h4:=tooLong_ p (tl xs) c
 rw [nz_length,nz_length,val_nz,val_nz] at h3
 have hb:val ys≤val xs→tl ys≤tl xs:=tl_mono ys xs hwy hwx
 have h5:val ys≤val xs→∀ w',Kp w w'→Calls Tryz.prog 147 #[.slice p (tl xs) c,.slice q (tl ys) d] w' fun e w''=>∃ v,e = .returned v∧Own w'' w'.heap.size v (dig (val xs - val ys))∧Kp w' w'':=fun hle w' k=>by
  have:=diff_ p q c d (nz xs) (nz ys) w' ((hx.take _).grown k) ((hy.take _).grown k) (hwx.take _) (hwy.take _) (by rw [nz_length];omega) (by rw [nz_length,nz_length];exact hb hle) (by rw [val_nz,val_nz];exact hle)
  rw [nz_length,nz_length,val_nz,val_nz] at this
  exact this
 have e1:=tl_len xs hwx
 obtain ⟨N,hN⟩:∃ N,N = xs.length:=⟨_,rfl⟩
 obtain ⟨M,hM⟩:∃ M,M = ys.length:=⟨_,rfl⟩
 obtain ⟨S,hS⟩:∃ S,S = tl xs:=⟨_,rfl⟩
 obtain ⟨T,hT⟩:∃ T,T = tl ys:=⟨_,rfl⟩
 obtain ⟨a,ha⟩:∃ a,a = val xs:=⟨_,rfl⟩
 obtain ⟨b,hb'⟩:∃ b,b = val ys:=⟨_,rfl⟩
 rw [← hN,← hS] at h1
 rw [← hM,← hT] at h2
 rw [← hS,← hT,← ha,← hb'] at h3 h5
 rw [← hS] at h4 e1
 rw [← ha] at e1
 rw [← hN,← hM,← ha,← hb']
 clear hx hy hwx hwy lx ly hc hd hN hM hS hT lS lT hb ha hb'
 by_cases c1:a < b
 ·rw [cmpN_lt c1] at h3
  have e3:subN a b = ([],1):=by unfold subN;rw [if_pos c1]
  rw [e3]
  clear h4 h5 c1 e1 e3
  go_enter Tryz.func114,Tryz.ntmps114
  go_wp2_with fail
  refine h1.mono ?_;rintro e w' ⟨rfl,hw'⟩;obtain rfl:=hw'.symm
  go_wp2_with fail
  refine h2.mono ?_;rintro e w' ⟨rfl,hw'⟩;obtain rfl:=hw'.symm
  go_wp2_with fail
  refine h3.mono ?_;rintro e w1 ⟨rfl,k1⟩
  go_wp2
  exact bodyPost_ret (v:=.tuple #[.slice none 0 0,.int .i64 1]) (by simp [results,Tryz.results114,go_sem] <;> simp only [*]) rfl ⟨_,rfl,Own.nil _ _,k1⟩
 have t1:¬ (cmpN a b < 0):=by
  unfold cmpN;rw [if_neg c1];split <;> omega
 obtain ⟨R,hR⟩:∃ R,R = cmpN a b:=⟨_,rfl⟩
 rw [← hR] at h3 t1
 by_cases c2:16384 < S
 ·rw [decide_eq_true c2] at h4
  have e3:subN a b = ([],2):=by unfold subN;rw [if_neg c1,if_pos (by omega)]
  rw [e3]
  clear h5 c1 c2 e1 e3 hR
  go_enter Tryz.func114,Tryz.ntmps114
  go_wp2_with fail
  refine h1.mono ?_;rintro e w' ⟨rfl,hw'⟩;obtain rfl:=hw'.symm
  go_wp2_with fail
  refine h2.mono ?_;rintro e w' ⟨rfl,hw'⟩;obtain rfl:=hw'.symm
  go_wp2_with fail
  refine h3.mono ?_;rintro e w1 ⟨rfl,k1⟩
  go_wp2_with fail
  refine (h4 _).mono ?_;rintro e w' ⟨rfl,rfl⟩
  go_wp2
  exact bodyPost_ret (v:=.tuple #[.slice none 0 0,.int .i64 2]) (by simp [results,Tryz.results114,go_sem] <;> simp only [*]) rfl ⟨_,rfl,Own.nil _ _,k1⟩
 rw [decide_eq_false c2] at h4
 have e3:subN a b = (dig (a - b),0):=by unfold subN;rw [if_neg c1,if_neg (by omega)]
 rw [e3]
 have h6:=h5 (by omega)
 clear h5 c1 c2 e1 e3 hR
 go_enter Tryz.func114,Tryz.ntmps114
 go_wp2_with fail
 refine h1.mono ?_;rintro e w' ⟨rfl,hw'⟩;obtain rfl:=hw'.symm
 go_wp2_with fail
 refine h2.mono ?_;rintro e w' ⟨rfl,hw'⟩;obtain rfl:=hw'.symm
 go_wp2_with fail
 refine h3.mono ?_;rintro e w1 ⟨rfl,k1⟩
 go_wp2_with fail
 refine (h4 _).mono ?_;rintro e w' ⟨rfl,rfl⟩
 go_wp2_with fail
 refine (h6 _ k1).mono ?_;rintro e w2 ⟨v,rfl,hO,k2⟩
 go_wp2
 exact bodyPost_ret (v:=.tuple #[v,.int .i64 0]) (by simp [results,Tryz.results114,go_sem] <;> simp only [*]) rfl ⟨_,rfl,hO.mono k1.size,k1.trans k2⟩
theorem rnorm_ (p:Option Addr) (c:Nat) (xs:List Int) (w:World) (hx:Arr w p xs) (lx:xs.length≤1099511627776) :
  Calls Tryz.prog 132 #[.slice p xs.length c] w fun e w'=>∃ v,e = .returned v∧Own w' w.heap.size v (nz xs)∧Kp w w':=by
 obtain ⟨N,hN⟩:∃ N,N = xs.length:=⟨_,rfl⟩
 rw [← hN] at lx ⊢
 have HX:Hid (Arr w p xs):=hx
 have HN:Hid (N = xs.length):=hN
 obtain ⟨T,hT⟩:∃ T,T = tl xs:=⟨_,rfl⟩
 have HT:Hid (tlAux xs N = T):=by rw [hT,hN];exact rfl
 have HT2:Hid (T≤N∧T = tl xs):=⟨by rw [hT,hN];exact tl_le xs,hT⟩
 obtain ⟨i0,hi0,hi1,hi2,hi3⟩:=inf32p
 clear hN hx hT
 go_enter Tryz.func132,Tryz.ntmps132
 go_wp2
 go_loop [3] (fun i=>∃ k:Nat,i = .int .i64 k∧k≤N∧tlAux xs k = T) (fun i=>(intOf i).toNat)
 case atStart=>exact ⟨N,rfl,Nat.le_refl _,HT.out⟩
 case round =>
  obtain ⟨k,rfl,hk,ht⟩:=hrel
  have hN:=HN.out
  have step2:k = 0∨(∃ k',k = k' + 1∧xs.getD k' 0 = 0)∨(∃ k',k = k' + 1∧xs.getD k' 0≠0):=by
   rcases k with _ | k'
   ·exact Or.inl rfl
   ·by_cases cz:xs.getD k' 0 = 0
    ·exact Or.inr (Or.inl ⟨k',rfl,cz⟩)
    ·exact Or.inr (Or.inr ⟨k',rfl,cz⟩)
  rcases step2 with rfl | ⟨k,rfl,cz⟩ | ⟨k,rfl,cz⟩
  ·have hT0:T = 0:=by rw [← ht];rfl
   subst hT0
   clear hN HN HX HT ht hk
   have hnz:nz xs = []:=by unfold nz;rw [← HT2.out.2];rfl
   go_wp2
   go_loopw [4,5] (fun v i wr=>v = .slice none 0 0∧i = .int .i64 0∧wr = w) (fun _ _ _=>0)
   case atStart=>exact ⟨rfl,rfl,rfl⟩
   case round =>
    obtain ⟨rfl,rfl,rfl⟩:=hrel
    go_wp2
    exact bodyPost_ret (v:=.slice none 0 0) (by simp [results,Tryz.results132,go_sem] <;> simp only [*]) rfl ⟨_,rfl,by rw [hnz];exact Own.nil _ _,Kp.refl _⟩
  ·obtain ⟨b,off,rfl,hc'⟩:=HX.out.at (k:=k) (by omega)
   have e1:=hc' k (by omega)
   rw [tlAux_zero xs k cz] at ht
   rw [cz] at e1
   clear hN HN HX HT hc' HT2
   go_wp2
   exact ⟨⟨k,by go_num,by omega,ht⟩,by simp [intOf]⟩
  ·obtain ⟨b,off,rfl,hc'⟩:=HX.out.at (k:=k) (by omega)
   have e1:=hc' k (by omega)
   rw [tlAux_nz xs k cz] at ht
   obtain ⟨X,hX⟩:∃ X,X = xs.getD k 0:=⟨_,rfl⟩
   rw [← hX] at e1 cz
   have t1:(X == 0) = false:=by simp [cz]
   have HK:Hid (k + 1 = T):=ht
   clear hN HT hc' hX cz ht
   go_wp2
   go_loopw [4,5] (fun a i wr=>∃ (v:Value) (j:Nat),v = a∧j≤k + 1∧i = .int .i64 j∧Own wr w.heap.size v (xs.take j)∧Kp w wr) (fun _ i _=>k + 1 - (intOf i).toNat)
   case atStart=>exact ⟨_,0,rfl,Nat.zero_le _,rfl,by simpa using Own.nil w w.heap.size,Kp.refl _⟩
   case round =>
    obtain ⟨v,j,rfl,hj,rfl,hown,hkp⟩:=hrel
    obtain ⟨hTN,hTe⟩:=HT2.out
    have hKT:=HK.out
    have hN:=HN.out
    clear e1 t1
    by_cases cj:j < k + 1
    ·obtain ⟨b2,off2,hb2,hc2⟩:=HX.out.at (k:=j) (by omega)
     obtain ⟨rfl,rfl⟩:b = b2∧off = off2:=by simpa using hb2
     have e2:=kkeep hkp (hc2 j (by omega))
     have hpush:=take_push xs j (by omega)
     have hob:=own_block hown
     have hlen:(xs.take j).length = j:=by rw [List.length_take];omega
     have hown':wr.ownsRow w.heap.size 107 1 v ((xs.take j).length) ((xs.take j).map (Value.int .u32)):=hown
     obtain ⟨Y,hY⟩:∃ Y,Y = xs.getD j 0:=⟨_,rfl⟩
     rw [← hY] at e2 hpush
     have hsz:=hkp.size
     clear hc2 hb2 hY hTe HX HN HT2 HK hown
     clear hN
     go_wp2_with (first | (at_builtin;refine wpList_append_own _ rfl _ _ 46 rfl w.heap.size 107 i0 (.int .u32 0) 1 4 Tryz.underlying46 hi0 hi1 hi2 hi3 rfl (by decide) _ _ _ rfl (hown'.alloc _) ⟨wr.heap.size,0,none⟩ 1 1 [.int .u32 Y] rfl rfl ?c1 ?c2 ?c3 ?c4 ?c5 ?_))
     case c1 =>
      intro j' u hj'
      match j',hj' with
      | 0,hj'=>simp at hj';subst hj';simp [Addr.add]
     case c2=>intro u hu;simp at hu;subst hu;rfl
     case c3=>unfold maxLen;omega
     case c4=>omega
     case c5=>simp;omega
     intro v' w1 hown2 hgrow _
     have hO:Own w1 w.heap.size v' (xs.take (j + 1)):=by rw [← hpush];refine Own.push ?_;rw [hlen,List.map_take];exact hown2
     have hK2:Kp w w1:=(hkp.alloc _).grown hgrow hob
     clear hown2 hgrow hown' hkp hob e2 hsz hpush hlen
     go_wp2
     exact ⟨⟨_,j + 1,rfl,by omega,by go_num,hO,hK2⟩,by simp [intOf];omega⟩
    ·have hjk:j = k + 1:=by omega
     have hnz:nz xs = xs.take j:=by unfold nz;rw [← hTe,← hKT,hjk]
     clear hN HN HX HT2 HK hTe hTN hKT
     go_wp2
     exact bodyPost_ret (v:=v) (by simp [results,Tryz.results132,go_sem] <;> simp only [*]) rfl ⟨_,rfl,by rw [hnz];exact hown,hkp⟩
def tabL:List Int:=[0,1,28,2,29,14,24,3,30,22,20,15,25,17,4,8,31,27,13,23,21,19,16,7,26,12,18,6,11,5,10,9]
def Tab (w:World):Prop:=∀ i:Nat,i < 32→w.cell? ⟨2,i,none⟩ = some (.int .u8 (tabL.getD i 0))
theorem Tab.grown {w w':World} (h:Tab w) (g:Kp w w'):Tab w':=fun i hi=>kkeep g (h i hi)
theorem Tab.lt {w:World} (h:Tab w):2 < w.heap.size:=cell_lt (h 0 (by omega))
theorem Tab.kb {w w':World} {g:Nat} (h:Tab w) (k:Kb g w w') (hne:2≠g):Tab w':=fun i hi=>k.arr hne (h i hi)
theorem castj (P D M Q:Nat):((P * D % M / Q:Nat):Int) = (P:Int) * (D:Int) % (M:Int) / (Q:Int):=by push_cast;rfl
theorem tab_at:∀ k:Fin 32,2 ^ k.val * 125613361 % 4294967296 / 134217728 < 32∧tabL.getD (2 ^ k.val * 125613361 % 4294967296 / 134217728) 0 = (k.val:Int):=by decide +kernel
theorem rbit_ (p:Option Addr) (c i j:Nat) (xs:List Int) (w:World) (hx:Arr w p xs) (hwx:Wd xs) (lx:xs.length≤16777216) (hi:i < xs.length) (hj:j < 32) :
  Calls Tryz.prog 162 #[.slice p xs.length c,.int .i64 ((32 * i + j:Nat):Int)] w fun e w'=>e = .returned (.int .u32 ((xs.getD i 0).toNat / 2 ^ j % 2:Nat))∧w' = w:=by
 obtain ⟨N,hN⟩:∃ N,N = xs.length:=⟨_,rfl⟩
 obtain ⟨b,off,rfl,hc⟩:=hx.at hi
 have e1:=hc i hi
 have wx:=hwx i
 obtain ⟨X,hX⟩:∃ X:Nat,(X:Int) = xs.getD i 0:=⟨(xs.getD i 0).toNat,by omega⟩
 rw [← hX] at e1 ⊢
 rw [Int.toNat_natCast]
 obtain ⟨k,hk⟩:∃ k,k = 32 * i + j:=⟨_,rfl⟩
 rw [← hk,← hN]
 have t0:¬ ((k:Int) < 0):=by omega
 have f1:(k:Int) / 32 = (i:Int):=by omega
 have f2:(k:Int) % 32 = (j:Int):=by omega
 have i0:(0:Int)≤(i:Int):=by omega
 have i1:(i:Int) < (N:Int):=by omega
 have i2:¬ ((N:Int)≤(i:Int)):=by omega
 have f3:IntKind.u64.wrap (j:Int) = (j:Int):=by rw [IntKind.wrap_u64];omega
 have f7:wrap64 (i:Int) = (i:Int):=by unfold wrap64;omega
 have f8:wrap64 (j:Int) = (j:Int):=by unfold wrap64;omega
 obtain ⟨Q,hQ⟩:∃ Q,Q = X / 2 ^ j:=⟨_,rfl⟩
 rw [← hQ]
 have hQX:Q≤X:=by rw [hQ];exact Nat.div_le_self _ _
 have f4:(X:Int) / 2 ^ j = (Q:Int):=by rw [hQ];push_cast;rfl
 have f5:bits BinOp.and IntKind.u32 (Q:Int) 1 = ((Q % 2:Nat):Int):=by
  have:=u32_and_nat Q 1 (by omega) (by omega)
  rw [Nat.and_one_is_mod] at this
  exact this
 obtain ⟨B,hB⟩:∃ B,B = Q % 2:=⟨_,rfl⟩
 rw [← hB] at f5 ⊢
 clear hx hwx lx hi hc wx hX hk hN hQ hQX hB
 go_enter Tryz.func162,Tryz.ntmps162
 go_wp2
 exact bodyPost_ret (v:=.int .u32 (B:Int)) (by simp [results,Tryz.results162,go_sem] <;> simp only [*]) rfl ⟨rfl,rfl⟩
theorem rzeros_ (p:Option Addr) (c:Nat) (xs:List Int) (w:World) (hx:Arr w p xs) (hwx:Wd xs) (lx:xs.length≤16777216) :
  Calls Tryz.prog 137 #[.slice p xs.length c] w fun e w'=>e = .returned (.int .i64 (ctz (val xs):Nat))∧w' = w:=by
 have h1:=words_ p c xs w hx (by omega)
 have lS:=tl_le xs
 obtain ⟨R,hR⟩:∃ R,R = ctz (val xs):=⟨_,rfl⟩
 rcases Nat.eq_zero_or_pos (tl xs) with h0 | h0
 ·have e0:val xs = 0:=by rw [← val_tl xs,h0];rfl
  rw [h0] at h1
  rw [e0,ctz_zero]
  obtain ⟨N,hN⟩:∃ N,N = xs.length:=⟨_,rfl⟩
  rw [← hN] at h1 ⊢
  clear hx hwx lx lS h0 e0 hN hR
  go_enter Tryz.func137,Tryz.ntmps137
  go_wp2_with fail
  refine h1.mono ?_;rintro e w' ⟨rfl,hw'⟩;obtain rfl:=hw'.symm
  go_wp2
  exact bodyPost_ret (v:=.int .i64 0) (by simp [results,Tryz.results137,go_sem] <;> simp only [*]) rfl ⟨rfl,rfl⟩
 ·have hbit:=fun (i j:Nat) hi hj=>rbit_ p c i j xs w hx hwx lx hi hj
  have htop:xs.getD (tl xs - 1) 0≠0:=by
   rcases (tl_spec xs xs.length).2 with e | e
   ·exfalso;have:tl xs = 0:=e;omega
   ·exact e
  obtain ⟨N,hN⟩:∃ N,N = xs.length:=⟨_,rfl⟩
  obtain ⟨S,hS⟩:∃ S,S = tl xs:=⟨_,rfl⟩
  rw [← hN,← hS] at h1
  rw [← hS] at htop h0 lS
  rw [← hR]
  rw [← hN] at hbit lS lx ⊢
  have t0:((S:Int) == 0) = false:=by simp;omega
  have HX:Hid (Arr w p xs∧Wd xs∧N = xs.length∧R = ctz (val xs)∧xs.getD (S - 1) 0≠0∧0 < S∧S≤N):=⟨hx,hwx,hN,hR,htop,h0,lS⟩
  have HB:Hid (∀ (i j:Nat),i < N→j < 32→Calls Tryz.prog 162 #[.slice p N c,.int .i64 ((32 * i + j:Nat):Int)] w fun e w'=>e = .returned (.int .u32 ((xs.getD i 0).toNat / 2 ^ j % 2:Nat))∧w' = w):=hbit
  clear hx hwx hN hR hbit htop h0 hS lS
  go_enter Tryz.func137,Tryz.ntmps137
  go_wp2_with fail
  refine h1.mono ?_;rintro e w' ⟨rfl,hw'⟩;obtain rfl:=hw'.symm
  clear h1
  go_wp2
  clear t0
  go_loop [3] (fun z=>∃ i:Nat,z = .int .i64 ((32 * i:Nat):Int)∧i < S∧∀ j,j < i→xs.getD j 0 = 0) (fun z=>32 * S - (intOf z).toNat)
  case atStart=>exact ⟨0,rfl,HX.out.2.2.2.2.2.1,fun j h=>by omega⟩
  case round =>
   obtain ⟨i,rfl,hi,hz⟩:=hrel
   obtain ⟨hx,hwx,hN,hR,htop,h0,lS⟩:=HX.out
   obtain ⟨b,off,rfl,hc⟩:=hx.at (k:=i) (by omega)
   have e1:=hc i (by omega)
   obtain ⟨k,hk⟩:∃ k,k = 32 * i:=⟨_,rfl⟩
   rw [← hk]
   have f1:(k:Int) / 32 = (i:Int):=by omega
   have i0:(0:Int)≤(i:Int):=by omega
   have i1:(i:Int) < (N:Int):=by omega
   have hkb:k≤536870912:=by omega
   by_cases cx:xs.getD i 0 = 0
   ·have hi2:i + 1 < S:=by
     by_cases e:i = S - 1
     ·subst e;exact absurd cx htop
     ·omega
    have HZ:Hid ((∀ j,j < i + 1→xs.getD j 0 = 0)∧k = 32 * i):=⟨fun j hj=>by
     by_cases e:j = i
     ·subst e;exact cx
     ·exact hz j (by omega),hk⟩
    rw [cx] at e1
    clear HX HB hx hwx hN hR htop h0 lS hc cx hz hk
    go_wp2
    exact ⟨⟨i + 1,by have:=HZ.out.2;go_num,hi2,HZ.out.1⟩,by have:=HZ.out.2;simp [intOf];omega⟩
   ·have wx:=hwx i
    obtain ⟨X,hX⟩:∃ X:Nat,(X:Int) = xs.getD i 0:=⟨(xs.getD i 0).toNat,by omega⟩
    have HX2:Hid (R = ctz (val xs)∧(∀ j,j < i→xs.getD j 0 = 0)∧i < xs.length∧(X:Int) = xs.getD i 0∧X≠0∧X < 4294967296∧k = 32 * i∧i < N):=⟨hR,hz,by omega,hX,by omega,by omega,hk,by omega⟩
    rw [← hX] at e1
    have t1:((X:Int) == 0) = false:=by simp;omega
    clear HX hx hwx hN hR htop h0 lS hc cx hz wx hX
    go_wp2
    clear e1 t1 f1 i0 i1 hk hi
    go_loop [3] (fun z=>∃ j:Nat,z = .int .i64 ((32 * i + j:Nat):Int)∧j < 32∧X % 2 ^ j = 0) (fun z=>32 * (i + 1) - (intOf z).toNat)
    case atStart=>exact ⟨0,by simp,by omega,by simp [Nat.mod_one]⟩
    case round =>
     obtain ⟨j,rfl,hj,hm⟩:=hrel
     obtain ⟨hR,hz,hi,hX,hX0,hX32,hk,hiN⟩:=HX2.out
     have h2:=HB.out i j hiN hj
     rw [← hX,Int.toNat_natCast] at h2
     have hXd:X = X / 2 ^ j * 2 ^ j:=by
      have:=Nat.div_add_mod X (2 ^ j)
      rw [hm,Nat.add_zero,Nat.mul_comm] at this
      exact this.symm
     obtain ⟨Q,hQ⟩:∃ Q,Q = X / 2 ^ j:=⟨_,rfl⟩
     rw [← hQ] at h2 hXd
     rcases (by omega:Q % 2 = 0∨Q % 2 = 1) with cq | cq
     ·rw [cq] at h2
      have hj2:j + 1 < 32:=by
       by_cases e:j = 31
       ·exfalso
        subst e
        have:Q = 0∨2≤Q:=by omega
        rcases this with q0 | q0
        ·rw [q0] at hXd;simp at hXd;exact hX0 hXd
        ·have:2 * 2 ^ 31≤Q * 2 ^ 31:=Nat.mul_le_mul_right _ q0
         omega
       ·omega
      have HM:Hid (X % 2 ^ (j + 1) = 0):=by
       show X % 2 ^ (j + 1) = 0
       rw [hXd,Nat.pow_succ,Nat.mul_comm Q,Nat.mul_mod_mul_left,cq,Nat.mul_zero]
      obtain ⟨z,hz2⟩:∃ z,z = 32 * i + j:=⟨_,rfl⟩
      rw [← hz2] at h2 ⊢
      have hzb:z≤536870944:=by omega
      have HZ:Hid (z = 32 * i + j):=hz2
      clear HX2 HB hR hz hi hX hX0 hX32 hk hiN hXd hQ cq hm hz2
      go_wp2_with fail
      refine h2.mono ?_;rintro e w' ⟨rfl,hw'⟩;obtain rfl:=hw'.symm
      clear h2
      go_wp2
      exact ⟨⟨j + 1,by have:=HZ.out;go_num,hj2,HM.out⟩,by have:=HZ.out;simp [intOf];omega⟩
     ·rw [cq] at h2
      have hRv:=ctz_val xs i Q j hz hi cq hj (by rw [← hX,Int.toNat_natCast];exact hXd)
      rw [← hR] at hRv
      rw [← hRv] at h2 ⊢
      clear HX2 HB hR hz hi hX hX0 hX32 hk hiN hXd hQ cq hm hRv
      go_wp2_with fail
      refine h2.mono ?_;rintro e w' ⟨rfl,hw'⟩;obtain rfl:=hw'.symm
      clear h2
      go_wp2
      exact bodyPost_ret (v:=.int .i64 (R:Int)) (by simp [results,Tryz.results137,go_sem] <;> simp only [*]) rfl ⟨rfl,rfl⟩
end Go.Proofs.YtngglmnhjjlgkaaGreatDoor
