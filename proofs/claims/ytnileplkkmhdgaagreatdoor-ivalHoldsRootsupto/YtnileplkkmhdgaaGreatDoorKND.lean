import Derived.Test.YtnileplkkmhdgaaGreatDoorKH4Q
import Derived.Test.YtnileplkkmhdgaaGreatDoorKRW
set_option maxHeartbeats 1000000
set_option maxRecDepth 20000
namespace Go.Proofs.YtnileplkkmhdgaaGreatDoor
open Go.RowKit
theorem diff_ (p q:Option Addr) (c d:Nat) (xs ys:List Int) (w:World) (hx:Arr w p xs) (hy:Arr w q ys) (hwx:Wd xs) (hwy:Wd ys) (lx:xs.length < 1099511627775) (hl:ys.length≤xs.length) (hle:val ys≤val xs) :
    Calls Tryz.prog 128 #[.slice p xs.length c,.slice q ys.length d] w fun e w'=>∃ v,e = .returned v∧Own w' w.heap.size v (dig (val xs - val ys))∧Kp w w':=by
  have hfr:=fresh_ p c xs w hx (by omega)
  obtain ⟨N,hN⟩:∃ N,N = xs.length:=⟨_,rfl⟩
  obtain ⟨M,hM⟩:∃ M,M = ys.length:=⟨_,rfl⟩
  have hNM:M≤N:=by omega
  rw [← hN] at hfr ⊢
  rw [← hM]
  have hb1:N < 1099511627775:=by omega
  have HX:Hid (Arr w p xs):=hx
  have HY:Hid (Arr w q ys):=hy
  have HW:Hid (Wd xs∧Wd ys∧val ys≤val xs):=⟨hwx,hwy,hle⟩
  have HN:Hid (N = xs.length∧M = ys.length∧M≤N):=⟨hN,hM,hNM⟩
  clear hx hy hwx hwy lx hl hN hM hle
  go_enter Tryz.func128,Tryz.ntmps128
  go_wp2_with fail
  refine hfr.mono ?_;rintro e w2 ⟨g,rfl,hgw,hrz,hk2⟩
  clear hfr
  have HG:Hid (w.heap.size≤g):=hgw
  clear hgw
  go_wp2
  go_loopw [6,13] (fun cc i wr=>∃ (k C:Nat) (zs:List Int),cc = .int .u32 C∧i = .int .i64 k∧k≤M∧Rw wr g N zs∧zs.length = N∧Wd zs∧C≤1∧val zs + val (ys.take k) = val xs + C * 4294967296 ^ k∧(∀ j,k≤j→j < N→zs.getD j 0 = xs.getD j 0)∧Kp w wr) (fun _ i _=>M - (intOf i).toNat)
  case atStart=>exact ⟨0,0,xs,rfl,rfl,Nat.zero_le _,hrz,HN.out.1.symm,HW.out.1,by omega,by simp [val],fun j _ _=>rfl,hk2⟩
  case round =>
    clear hrz hk2
    obtain ⟨k,C,zs,rfl,rfl,hk,hrow,hzl,hwz,hC,hv,hsam,hkp⟩:=hrel
    obtain ⟨hN,hM,hNM⟩:=HN.out
    obtain ⟨hwx,hwy,hle⟩:=HW.out
    by_cases ck:k < M
    · obtain ⟨b,off,rfl,hc⟩:=HX.out.at (k:=k) (by omega)
      obtain ⟨b',off',rfl,hc'⟩:=HY.out.at (k:=k) (by omega)
      have e1:=kkeep hkp (hc k (by omega))
      have e2:=kkeep hkp (hc' k (by omega))
      have hbg:b≠g:=by have:=cell_lt (hc k (by omega));have:=HG.out;omega
      have hbg':b'≠g:=by have:=cell_lt (hc' k (by omega));have:=HG.out;omega
      have e3:=World.rowIs.cell hrow (i:=k) (by omega)
      have e4:=World.rowIs.frozen hrow k
      have wx:=hwx k
      have wy:=hwy k
      have hzX:=hsam k (Nat.le_refl _) (by omega)
      have hst:=fun (C' Z:Nat) h=>diff_step zs k C C' Z _ _ (xs.getD k 0) (ys.getD k 0) (by omega) hzX h hv
      rw [← val_take_succ] at hst
      obtain ⟨X,hX⟩:∃ X:Nat,(X:Int) = xs.getD k 0:=⟨(xs.getD k 0).toNat,by omega⟩
      obtain ⟨Y,hY⟩:∃ Y:Nat,(Y:Int) = ys.getD k 0:=⟨(ys.getD k 0).toNat,by omega⟩
      rw [← hX] at e1 wx hst
      rw [← hY] at e2 wy hst
      simp only [Int.toNat_natCast] at hst
      have had:=sub32_ X Y C (by omega) (by omega) hC
      obtain ⟨Z,hZ⟩:∃ Z:Nat,Z = (X + 8589934592 - Y - C) % 4294967296:=⟨_,rfl⟩
      obtain ⟨C',hC2⟩:∃ C':Nat,C' = if X < Y + C then 1 else 0:=⟨_,rfl⟩
      rw [← hZ,← hC2] at had
      have hC':C'≤1:=by rw [hC2];split <;> omega
      have hs2:=hst C' Z (by rw [hC2,hZ];split <;> omega)
      have hsam2:∀ j,k + 1≤j→j < N→(zs.set k (Z:Int)).getD j 0 = xs.getD j 0:=fun j h1 h2=>by
        rw [← hsam j (by omega) h2];simp [List.getD,show ¬ k = j from by omega]
      have hw2:Wd (zs.set k (Z:Int)):=hwz.set k Z (by omega)
      have hl2:(zs.set k (Z:Int)).length = N:=by rw [List.length_set];exact hzl
      have hrs:∀ w':World,Kp wr w'→Rw (w'.setCell ⟨g,k,none⟩ (.int .u32 (Z:Int))) g N (zs.set k (Z:Int)):=fun w' h=>(hrow.grown h).set k Z (by omega)
      have hkk:k < N:=by omega
      have i0:(0:Int)≤(k:Int):=by omega
      have i1:(k:Int) < (N:Int):=by omega
      have i2:(k:Int) < (M:Int):=by omega
      have hgw:=HG.out
      clear hc hc' HX HY HW HN HG hN hM hX hY hv hZ hC2 wx wy hwz hC hwx hwy hzX hsam hzl hrow hst hle
      go_wp2
      go_region_held3 (fun w'=>w'.cell? ⟨b,off + k,none⟩ = some (.int .u32 (X:Int))∧w'.cell? ⟨b',off' + k,none⟩ = some (.int .u32 (Y:Int))) (first | (exact ⟨e1,e2⟩) | (exact ⟨(World.cell?_setCell_far _ _ _ _ (Ne.symm hbg)).trans e1,(World.cell?_setCell_far _ _ _ _ (Ne.symm hbg')).trans e2⟩)) (first | (go_at_call 156;refine (had _).mono ?_;rintro e w' ⟨rfl,rfl⟩))
      have hR:Rw (wr.setCell ⟨g,k,none⟩ (.int .u32 (Z:Int))).drew g N (zs.set k (Z:Int)):=hrs wr (Kp.refl _)
      have hK:Kp w (wr.setCell ⟨g,k,none⟩ (.int .u32 (Z:Int))).drew:=(hkp.setCell hgw _).drew
      clear hrs hkp e1 e2 e3 e4 had
      go_wp2
      exact ⟨⟨k + 1,C',zs.set k (Z:Int),rfl,by go_num,by omega,hR,hl2,hw2,hC',hs2,hsam2,hK⟩,by simp [intOf];omega⟩
    · have hkM:k = M:=by omega
      subst hkM
      rw [hM,List.take_length,← hM] at hv
      have i2:¬ ((k:Int) < (k:Int)):=by omega
      have HV:Hid (val zs + val ys = val xs + C * 4294967296 ^ k):=hv
      clear hv HX HY hsam hk ck hN hM hNM hwx hwy hle
      go_wp2
      go_loopw [6,8] (fun cc i wq=>∃ (j C:Nat) (zs:List Int),cc = .int .u32 C∧i = .int .i64 j∧Rw wq g N zs∧zs.length = N∧Wd zs∧C≤1∧val zs + val ys = val xs + C * 4294967296 ^ j∧Kp w wq∧j≤N) (fun _ i _=>N + 1 - (intOf i).toNat)
      case atStart=>exact ⟨k,C,zs,rfl,rfl,hrow,hzl,hwz,hC,HV.out,hkp,by have:=HN.out.2.2;omega⟩
      case round =>
        clear hrow hzl hwz hC HV hkp
        obtain ⟨j,C,zs,rfl,rfl,hrow,hzl,hwz,hC,hv,hkp,hj⟩:=hrel
        obtain ⟨hN,hM,hNM⟩:=HN.out
        obtain ⟨hwx,hwy,hle⟩:=HW.out
        rcases (by omega:C = 0∨C = 1) with rfl | rfl
        · rw [Nat.zero_mul,Nat.add_zero] at hv
          have hv2:val zs = val xs - val ys:=by omega
          have hA:=hrow.arr N (Nat.le_refl _) (by omega)
          rw [List.take_of_length_le (by omega)] at hA
          have htr:=trim_ (some ⟨g,0,none⟩) N zs wr hA (by omega) (by omega)
          have hO:Own wr w.heap.size (.slice (some ⟨g,0,none⟩) (tl zs) N) (dig (val xs - val ys)):=by
            have h1:=Own.of_row (base:=w.heap.size) (k:=tl zs) hrow HG.out (by have:=tl_le zs;omega) hzl (by unfold maxLen;omega)
            have h2:zs.take (tl zs) = dig (val xs - val ys):=by rw [← hv2,← nz_dig zs hwz];rfl
            rw [h2] at h1
            exact h1
          rw [hzl] at htr
          obtain ⟨T,hT⟩:∃ T,T = tl zs:=⟨_,rfl⟩
          rw [← hT] at htr hO
          clear hA hrow hzl hwz hC hv hj hT HW HN HG hN hM hNM hwx hwy i2 hle hv2
          go_wp2_with (first | (go_at_call 120;refine htr.mono ?_;rintro e w' ⟨rfl,rfl⟩))
          exact bodyPost_ret (v:=.slice (some ⟨g,0,none⟩) T N) (by simp [results,Tryz.results128,go_sem] <;> simp only [*]) rfl ⟨_,rfl,hO,hkp⟩
        · have hjN:j < N:=diff_room zs xs ys j N hzl hwz hle hv
          have e3:=World.rowIs.cell hrow (i:=j) (by omega)
          have e4:=World.rowIs.frozen hrow j
          have wz:=hwz j
          obtain ⟨Z0,hZ0⟩:∃ Z0:Nat,(Z0:Int) = zs.getD j 0:=⟨(zs.getD j 0).toNat,by omega⟩
          have hst:=fun (C' Z:Nat) h=>diff_step zs j 1 C' Z _ _ (Z0:Int) 0 (by omega) hZ0.symm h hv
          simp only [Int.toNat_natCast] at hst
          obtain ⟨Z,hZ⟩:∃ Z:Nat,Z = (Z0 + 8589934592 - 0 - 1) % 4294967296:=⟨_,rfl⟩
          obtain ⟨C',hC2⟩:∃ C':Nat,C' = if Z0 < 0 + 1 then 1 else 0:=⟨_,rfl⟩
          have had:∀ w:World,Calls Tryz.prog 156 #[.int .u32 (Z0:Int),.int .u32 0,.int .u32 1] w fun e w'=>e = .returned (.tuple #[.int .u32 (Z:Int),.int .u32 (C':Int)])∧w' = w:=by
            rw [hZ,hC2];exact sub32_ Z0 0 1 (by omega) (by omega) (by omega)
          have hC':C'≤1:=by rw [hC2];split <;> omega
          have hs2:=hst C' Z (by rw [show (0:Int).toNat = 0 from rfl,hC2,hZ];split <;> omega)
          rw [show (0:Int).toNat = 0 from rfl,Nat.zero_mul,Nat.add_zero] at hs2
          have hw2:Wd (zs.set j (Z:Int)):=hwz.set j Z (by omega)
          have hl2:(zs.set j (Z:Int)).length = N:=by rw [List.length_set];exact hzl
          have hR:Rw (wr.setCell ⟨g,j,none⟩ (.int .u32 (Z:Int))) g N (zs.set j (Z:Int)):=hrow.set j Z (by omega)
          have hK:Kp w (wr.setCell ⟨g,j,none⟩ (.int .u32 (Z:Int))):=hkp.setCell HG.out _
          have e3':wr.cell? ⟨g,j,none⟩ = some (.int .u32 (Z0:Int)):=by rw [hZ0];exact e3
          have i0:(0:Int)≤(j:Int):=by omega
          have i3:(j:Int) < (N:Int):=by omega
          clear e3 hrow hzl hwz hC hv hZ hC2 hZ0 wz HW HN HG hN hM hNM hwx hwy i2 hkp hst hle
          go_wp2_with (first | (go_at_call 156;refine (had _).mono ?_;rintro e w' ⟨rfl,rfl⟩))
          exact ⟨⟨j + 1,C',zs.set j (Z:Int),rfl,by go_num,hR,hl2,hw2,hC',hs2,hK,by omega⟩,by simp [intOf];omega⟩
theorem nsub_ (p q:Option Addr) (c d:Nat) (xs ys:List Int) (w:World) (hx:Arr w p xs) (hy:Arr w q ys) (hwx:Wd xs) (hwy:Wd ys) (lx:xs.length < 1099511627775) (ly:ys.length < 1099511627775) (hc:xs.length≤c) (hd:ys.length≤d) :
    Calls Tryz.prog 97 #[.slice p xs.length c,.slice q ys.length d] w fun e w'=>∃ v,e = .returned (.tuple #[v,.int .i64 (subN (val xs) (val ys)).2])∧Own w' w.heap.size v (subN (val xs) (val ys)).1∧Kp w w':=by
  have h1:=trim_ p c xs w hx (by omega) hc
  have h2:=trim_ q d ys w hy (by omega) hd
  have lS:=tl_le xs
  have lT:=tl_le ys
  have h3:=ncmp_ p q c d (nz xs) (nz ys) w (hx.take _) (hy.take _) (hwx.take _) (hwy.take _) (by rw [nz_length];omega) (by rw [nz_length];omega) (by rw [nz_length];omega) (by rw [nz_length];omega)
  have h4:=tooLong_ p (tl xs) c
  rw [nz_length,nz_length,val_nz,val_nz] at h3
  have hb:val ys≤val xs→tl ys≤tl xs:=tl_mono ys xs hwy hwx
  have h5:val ys≤val xs→∀ w',Kp w w'→Calls Tryz.prog 128 #[.slice p (tl xs) c,.slice q (tl ys) d] w' fun e w''=>∃ v,e = .returned v∧Own w'' w'.heap.size v (dig (val xs - val ys))∧Kp w' w'':=fun hle w' k=>by
    have:=diff_ p q c d (nz xs) (nz ys) w' ((hx.take _).grown k) ((hy.take _).grown k) (hwx.take _) (hwy.take _) (by rw [nz_length];omega) (by rw [nz_length,nz_length];exact hb hle) (by rw [val_nz,val_nz];exact hle)
    rw [nz_length,nz_length,val_nz,val_nz] at this
    exact this
  have e1:=tl_len xs hwx
  obtain ⟨N,hN⟩:∃ N,N = xs.length:=⟨_,rfl⟩
  obtain ⟨M,hM⟩:∃ M,M = ys.length:=⟨_,rfl⟩
  obtain ⟨S,hS⟩:∃ S,S = tl xs:=⟨_,rfl⟩
  obtain ⟨T,hT⟩:∃ T,T = tl ys:=⟨_,rfl⟩
  obtain ⟨a,ha⟩:∃ a,a = val xs:=⟨_,rfl⟩
  obtain ⟨b,hb'⟩:∃ b,b = val ys:=⟨_,rfl⟩
  rw [← hN,← hS] at h1
  rw [← hM,← hT] at h2
  rw [← hS,← hT,← ha,← hb'] at h3 h5
  rw [← hS] at h4 e1
  rw [← ha] at e1
  rw [← hN,← hM,← ha,← hb']
  clear hx hy hwx hwy lx ly hc hd hN hM hS hT lS lT hb ha hb'
  by_cases c1:a < b
  · rw [cmpN_lt c1] at h3
    have e3:subN a b = ([],1):=by unfold subN;rw [if_pos c1]
    rw [e3]
    clear h4 h5 c1 e1 e3
    go_enter Tryz.func97,Tryz.ntmps97
    go_wp2_with fail
    refine h1.mono ?_;rintro e w' ⟨rfl,hw'⟩;obtain rfl:=hw'.symm
    go_wp2_with fail
    refine h2.mono ?_;rintro e w' ⟨rfl,hw'⟩;obtain rfl:=hw'.symm
    go_wp2_with fail
    refine h3.mono ?_;rintro e w1 ⟨rfl,k1⟩
    go_wp2
    exact bodyPost_ret (v:=.tuple #[.slice none 0 0,.int .i64 1]) (by simp [results,Tryz.results97,go_sem] <;> simp only [*]) rfl ⟨_,rfl,Own.nil _ _,k1⟩
  have t1:¬ (cmpN a b < 0):=by
    unfold cmpN;rw [if_neg c1];split <;> omega
  obtain ⟨R,hR⟩:∃ R,R = cmpN a b:=⟨_,rfl⟩
  rw [← hR] at h3 t1
  by_cases c2:16384 < S
  · rw [decide_eq_true c2] at h4
    have e3:subN a b = ([],2):=by unfold subN;rw [if_neg c1,if_pos (by omega)]
    rw [e3]
    clear h5 c1 c2 e1 e3 hR
    go_enter Tryz.func97,Tryz.ntmps97
    go_wp2_with fail
    refine h1.mono ?_;rintro e w' ⟨rfl,hw'⟩;obtain rfl:=hw'.symm
    go_wp2_with fail
    refine h2.mono ?_;rintro e w' ⟨rfl,hw'⟩;obtain rfl:=hw'.symm
    go_wp2_with fail
    refine h3.mono ?_;rintro e w1 ⟨rfl,k1⟩
    go_wp2_with fail
    refine (h4 _).mono ?_;rintro e w' ⟨rfl,rfl⟩
    go_wp2
    exact bodyPost_ret (v:=.tuple #[.slice none 0 0,.int .i64 2]) (by simp [results,Tryz.results97,go_sem] <;> simp only [*]) rfl ⟨_,rfl,Own.nil _ _,k1⟩
  rw [decide_eq_false c2] at h4
  have e3:subN a b = (dig (a - b),0):=by unfold subN;rw [if_neg c1,if_neg (by omega)]
  rw [e3]
  have h6:=h5 (by omega)
  clear h5 c1 c2 e1 e3 hR
  go_enter Tryz.func97,Tryz.ntmps97
  go_wp2_with fail
  refine h1.mono ?_;rintro e w' ⟨rfl,hw'⟩;obtain rfl:=hw'.symm
  go_wp2_with fail
  refine h2.mono ?_;rintro e w' ⟨rfl,hw'⟩;obtain rfl:=hw'.symm
  go_wp2_with fail
  refine h3.mono ?_;rintro e w1 ⟨rfl,k1⟩
  go_wp2_with fail
  refine (h4 _).mono ?_;rintro e w' ⟨rfl,rfl⟩
  go_wp2_with fail
  refine (h6 _ k1).mono ?_;rintro e w2 ⟨v,rfl,hO,k2⟩
  go_wp2
  exact bodyPost_ret (v:=.tuple #[v,.int .i64 0]) (by simp [results,Tryz.results97,go_sem] <;> simp only [*]) rfl ⟨_,rfl,hO.mono k1.size,k1.trans k2⟩
theorem stepped_ (d V:Int) (s o sz:Bool) (r ro K:Nat) (hK:53≤K) (hK2:K≤2096) (hv:V.natAbs < 2 ^ K) (hr1:r < 9218868437227405312) (hro:ro < 9218868437227405312) (hr:r = rgU 53 (rU 0 53 V.natAbs 1)) (hs:s = (if V = 0 then sz else decide (V < 0))) (ho:Iv o ro = V - Iv s r) (w:World) :
    Calls Tryz.prog 65 #[.int .i64 d,.float .f64 (Fq.wD s r),.float .f64 (Fq.wD o ro)] w fun e w'=>e = .returned (.float .f64 (sumW d V))∧Kp w w':=by
  obtain ⟨S1,S2,S3⟩:=step_w d V s o sz r ro K hK hK2 hv hr hs ho
  have hz:(0:Nat) = Fq.wD false 0:=rfl
  have hord:FloatKind.f64.format.order (Fq.wD o ro) 0 = some (compare (Fq.plz o ro) 0):=by
    rw [hz,Fq.ordD o false ro 0 (by omega) (by decide)];rfl
  obtain ⟨P,hP⟩:∃ P,P = Fq.plz o ro:=⟨_,rfl⟩
  rw [← hP] at S1 S2 S3 hord
  obtain ⟨O,hO⟩:∃ O,O = Fq.wD o ro:=⟨_,rfl⟩
  obtain ⟨Z,hZ⟩:∃ Z,Z = sumW d V:=⟨_,rfl⟩
  obtain ⟨N,hN⟩:∃ N,N = Fq.wD s r:=⟨_,rfl⟩
  rw [← hZ] at S1 S2 S3
  rw [← hO] at hord
  rw [← hO,← hZ,← hN]
  have hup:=fun h=>Fq.up_d s r (by omega) h w
  have hdn:=fun h=>Fq.dn_d s r (by omega) h w
  have hpl:=Fq.plain_d s r (by omega) w
  rw [← hN] at hup hdn hpl
  clear hO hN hZ hr hs ho hP hz hv hK hK2 hr1 hro
  by_cases c1:d = -1
  · by_cases c2:P < 0
    · obtain ⟨a1,a2⟩:=S1 c1 c2
      have hc:=hdn a1
      rw [a2] at hc
      have o1:(FloatKind.f64.format.order O 0 == some .lt) = true:=by rw [hord,Int.compare_eq_lt.2 c2];rfl
      subst c1
      clear S1 S2 S3 hup hdn hpl hord c2 a1 a2
      go_enter Tryz.func65,Tryz.ntmps65
      go_wp2_with fail
      refine hc.mono ?_;rintro e w1 ⟨rfl,hk⟩
      clear hc
      go_wp2
      exact bodyPost_ret (v:=.float .f64 Z) (by simp [results,Tryz.results65,go_sem]) rfl ⟨rfl,hk⟩
    · have hc:=hpl
      rw [S3 (fun h=>c2 h.2) (fun h=>by omega)] at hc
      have o1:(FloatKind.f64.format.order O 0 == some .lt) = false:=by
        rw [hord]
        rcases Int.lt_trichotomy P 0 with h | h | h
        · exact absurd h c2
        · rw [Int.compare_eq_eq.2 h];rfl
        · rw [Int.compare_eq_gt.2 h];rfl
      subst c1
      clear S1 S2 S3 hup hdn hpl hord c2
      go_enter Tryz.func65,Tryz.ntmps65
      go_wp2_with fail
      refine hc.mono ?_;rintro e w1 ⟨rfl,hw⟩
      obtain rfl:=hw.symm
      clear hc
      go_wp2
      exact bodyPost_ret (v:=.float .f64 Z) (by simp [results,Tryz.results65,go_sem]) rfl ⟨rfl,Kp.refl _⟩
  · have e1:(d == -1) = false:=by simp [c1]
    by_cases c3:d = 1
    · by_cases c2:0 < P
      · obtain ⟨a1,a2⟩:=S2 c3 c2
        have hc:=hup a1
        rw [a2] at hc
        have o1:(FloatKind.f64.format.order O 0 == some .gt) = true:=by rw [hord,Int.compare_eq_gt.2 c2];rfl
        subst c3
        clear S1 S2 S3 hup hdn hpl hord c2 a1 a2 c1
        go_enter Tryz.func65,Tryz.ntmps65
        go_wp2_with fail
        refine hc.mono ?_;rintro e w1 ⟨rfl,hk⟩
        clear hc
        go_wp2
        exact bodyPost_ret (v:=.float .f64 Z) (by simp [results,Tryz.results65,go_sem]) rfl ⟨rfl,hk⟩
      · have hc:=hpl
        rw [S3 (fun h=>c1 h.1) (fun h=>c2 h.2)] at hc
        have o1:(FloatKind.f64.format.order O 0 == some .gt) = false:=by
          rw [hord]
          rcases Int.lt_trichotomy P 0 with h | h | h
          · rw [Int.compare_eq_lt.2 h];rfl
          · rw [Int.compare_eq_eq.2 h];rfl
          · exact absurd h c2
        subst c3
        clear S1 S2 S3 hup hdn hpl hord c2 c1
        go_enter Tryz.func65,Tryz.ntmps65
        go_wp2_with fail
        refine hc.mono ?_;rintro e w1 ⟨rfl,hw⟩
        obtain rfl:=hw.symm
        clear hc
        go_wp2
        exact bodyPost_ret (v:=.float .f64 Z) (by simp [results,Tryz.results65,go_sem]) rfl ⟨rfl,Kp.refl _⟩
    · have e2:(d == 1) = false:=by simp [c3]
      have hc:=hpl
      rw [S3 (fun h=>c1 h.1) (fun h=>c3 h.1)] at hc
      clear S1 S2 S3 hup hdn hpl hord c1 c3
      go_enter Tryz.func65,Tryz.ntmps65
      go_wp2_with fail
      refine hc.mono ?_;rintro e w1 ⟨rfl,hw⟩
      obtain rfl:=hw.symm
      clear hc
      go_wp2
      exact bodyPost_ret (v:=.float .f64 Z) (by simp [results,Tryz.results65,go_sem]) rfl ⟨rfl,Kp.refl _⟩
end Go.Proofs.YtnileplkkmhdgaaGreatDoor
