import Derived.Test.YtaidnpjgkkdloaaGreatDoorKQP
import Derived.Test.YtaidnpjgkkdloaaGreatDoorKXBW
import Derived.Test.YtaidnpjgkkdloaaGreatDoorKXMR
import Derived.Test.YtaidnpjgkkdloaaGreatDoorKXQJ
import Derived.Test.YtaidnpjgkkdloaaGreatDoorKXRL
set_option maxHeartbeats 1000000
set_option maxRecDepth 20000
namespace Go.Proofs.YtaidnpjgkkdloaaGreatDoor
open Go.RowKit
def ByS (w wq:World) (pu pv:Option Addr) (us vs qs:List Int) (gq L:Nat):Prop:=Arr wq pu us∧Arr wq pv vs∧Rw wq gq L qs∧Kp w wq
theorem arr_kb {g:Nat} {w w':World} {p:Option Addr} {xs:List Int} (h:Arr w p xs) (k:Kb g w w') (hne:∀ b off,p = some ⟨b,off,none⟩→b≠g):Arr w' p xs:=by
  rcases h with h | ⟨b,off,h1,h2⟩
  · exact Or.inl h
  · exact Or.inr ⟨b,off,h1,fun j hj=>k.arr (hne b off h1) (h2 j hj)⟩
theorem ByS.kb {w wq w':World} {pu pv:Option Addr} {us vs qs:List Int} {gq L g:Nat} (h:ByS w wq pu pv us vs qs gq L) (k:Kb g wq w') (h1:∀ b off,pu = some ⟨b,off,none⟩→b≠g) (h2:∀ b off,pv = some ⟨b,off,none⟩→b≠g) (h3:gq≠g) (h4:w.heap.size≤g):ByS w w' pu pv us vs qs gq L :=
  ⟨arr_kb h.1 k h1,arr_kb h.2.1 k h2,h.2.2.1.kb k h3,k.kp h.2.2.2 h4⟩
theorem ByS.kp {w wq w':World} {pu pv:Option Addr} {us vs qs:List Int} {gq L:Nat} (h:ByS w wq pu pv us vs qs gq L) (k:Kp wq w'):ByS w w' pu pv us vs qs gq L :=
  ⟨h.1.grown k,h.2.1.grown k,h.2.2.1.grown k,h.2.2.2.trans k⟩
theorem cmpR (v1 v2:Value) (a b:Nat) (w:World) (h1:Ls w v1 (dig a)) (h2:Ls w v2 (dig b)) (l1:blen a≤33554432) (l2:blen b≤33554432) :
    Calls Tryz.prog 33 #[v1,v2] w fun e w'=>e = .returned (.int .i64 (cmpN a b))∧Kp w w':=by
  obtain ⟨p,c,rfl,hA,hc⟩:=h1
  obtain ⟨q,d,rfl,hB,hd⟩:=h2
  have e1:=dlen a 1048576 (by omega)
  have e2:=dlen b 1048576 (by omega)
  have h:=rcmp_ p q c d (dig a) (dig b) w hA hB (Wd_dig a) (Wd_dig b) (by omega) (by omega)
  rw [val_dig,val_dig] at h
  exact h
theorem normR (v:Value) (L:List Int) (w:World) (h:Ls w v L) (hw:Wd L) (l:L.length≤1048576) :
    Calls Tryz.prog 41 #[v] w fun e w'=>∃ v',e = .returned v'∧Ls w' v' (dig (val L))∧Kp w w':=by
  obtain ⟨p,c,rfl,hA,hc⟩:=h
  have h:=rnorm_ p c L w hA (by omega)
  rw [nz_dig L hw] at h
  exact h.mono fun e w' ⟨v,h1,h2,h3⟩=>⟨v,h1,h2.ls,h3⟩
theorem rtimes_ (p q:Option Addr) (c d:Nat) (xs ys:List Int) (w:World) (hx:Arr w p xs) (hy:Arr w q ys) (hwx:Wd xs) (hwy:Wd ys) (lx:xs.length≤16777216) (ly:ys.length≤16777216) :
    Calls Tryz.prog 31 #[.slice p xs.length c,.slice q ys.length d] w fun e w'=>∃ v,e = .returned v∧Own w' w.heap.size v (dig (val xs * val ys))∧Kp w w':=by
  have h1:=words_ p c xs w hx (by omega)
  have h2:=words_ q d ys w hy (by omega)
  have lS:=tl_le xs
  have lT:=tl_le ys
  have hvx:=val_tl xs
  have hvy:=val_tl ys
  obtain ⟨N,hN⟩:∃ N,N = xs.length:=⟨_,rfl⟩
  obtain ⟨M,hM⟩:∃ M,M = ys.length:=⟨_,rfl⟩
  obtain ⟨S,hS⟩:∃ S,S = tl xs:=⟨_,rfl⟩
  obtain ⟨T,hT⟩:∃ T,T = tl ys:=⟨_,rfl⟩
  rw [← hS] at h1 lS hvx
  rw [← hT] at h2 lT hvy
  have hmk:∀ w:World,(Instr.makeSlice 25 (.int .i64 ((S:Int) + (T:Int))) (.int .i64 ((S:Int) + (T:Int)))).run Tryz.prog w = .ok (.slice (some ⟨w.heap.size,0,none⟩) (S + T) (S + T)) (w.alloc (.cells (madeCells #[.int .u32 0] (S + T)) 43)):=by
    have:=mk32 (S + T) (by omega)
    simpa using this
  have hk1:Kp w (w.alloc (.cells (madeCells #[.int .u32 0] (S + T)) 43)):=(Kp.refl w).alloc _
  have hrz:Rw (w.alloc (.cells (madeCells #[.int .u32 0] (S + T)) 43)) w.heap.size (S + T) (List.replicate (S + T) 0):=World.rowIs.congr (World.rowIs_made w (.int .u32 0) (S + T) 43) (fun j _=>by rw [rep0_getD])
  obtain ⟨zs0,hz0⟩:∃ zs0,zs0 = List.replicate (S + T) (0:Int):=⟨_,rfl⟩
  have hzl0:zs0.length = S + T:=by rw [hz0];simp
  have hwz0:Wd zs0:=by rw [hz0];exact Wd_rep0 _
  have hzz0:∀ j,zs0.getD j 0 = 0:=fun j=>by rw [hz0];exact rep0_getD _ _
  have hvz0:=val_zeros zs0 hzz0
  rw [← hz0] at hrz
  have HX:Hid (Arr w p xs∧Wd xs∧val (xs.take S) = val xs):=⟨hx,hwx,hvx⟩
  have HY:Hid (Arr w q ys∧Wd ys∧val (ys.take T) = val ys):=⟨hy,hwy,hvy⟩
  have HN:Hid (N = xs.length∧M = ys.length):=⟨hN,hM⟩
  obtain ⟨g,hg⟩:∃ g,g = w.heap.size:=⟨_,rfl⟩
  rw [← hg] at hrz
  have HG:Hid (g = w.heap.size):=hg
  rw [← hN] at lx h1 lS ⊢
  rw [← hM] at ly h2 lT ⊢
  clear hx hy hwx hwy hN hM hz0 hS hT hvx hvy
  go_enter Tryz.func31,Tryz.ntmps31
  go_wp2_with fail
  refine h1.mono ?_;rintro e w' ⟨rfl,hw'⟩;obtain rfl:=hw'.symm
  go_wp2_with fail
  refine h2.mono ?_;rintro e w' ⟨rfl,hw'⟩;obtain rfl:=hw'.symm
  go_wp2
  rw [← hg]
  clear hmk hg h1 h2
  go_loopw [8] (fun i wr=>∃ (k:Nat) (zs:List Int),i = .int .i64 k∧k≤T∧Rw wr g (S + T) zs∧zs.length = S + T∧Wd zs∧val zs = val (ys.take k) * val xs∧(∀ j,k + S≤j→zs.getD j 0 = 0)∧Kp w wr) (fun i _=>T - (intOf i).toNat)
  case atStart=>exact ⟨0,zs0,rfl,Nat.zero_le _,hrz,hzl0,hwz0,by rw [hvz0];simp [val],fun j _=>hzz0 j,hk1⟩
  case round =>
    clear hrz hzl0 hwz0 hzz0 hvz0 hk1
    obtain ⟨k,zs,rfl,hk,hrow,hzl,hwz,hv,hzz,hkp⟩:=hrel
    obtain ⟨hN,hM⟩:=HN.out
    by_cases ck:k < T
    · obtain ⟨b,off,rfl,hc⟩:=HY.out.1.at (k:=k) (by omega)
      have e0:=hc k (by omega)
      have e1:=kkeep hkp e0
      have wy:=HY.out.2.1 k
      have hrp:=row_prod ys k (val xs)
      obtain ⟨Y,hY⟩:∃ Y:Nat,(Y:Int) = ys.getD k 0:=⟨(ys.getD k 0).toNat,by omega⟩
      rw [← hY] at e1 wy hrp
      rw [Int.toNat_natCast] at hrp
      have i0:(0:Int)≤(k:Int):=by omega
      have i1:(k:Int) < (T:Int):=by omega
      have i1':(k:Int) < (M:Int):=by omega
      by_cases cY:Y = 0
      · subst cY
        have hv2:val zs = val (ys.take (k + 1)) * val xs:=by rw [← hrp,hv];simp
        have t1:(((0:Nat):Int) == 0) = true:=by simp
        clear hc e0 HX HY HN HG hN hM hY wy hrp hv
        go_wp2
        exact ⟨⟨k + 1,zs,by go_num,by omega,hrow,hzl,hwz,hv2,fun j hj=>hzz j (by omega),hkp⟩,by simp [intOf];omega⟩
      · have t1:((Y:Int) == 0) = false:=by simp;omega
        have fY:IntKind.u64.wrap (Y:Int) = (Y:Int):=by rw [IntKind.wrap_u64];omega
        have hY32:Y < 4294967296:=by omega
        have HV:Hid (val zs + val xs * Y * 4294967296 ^ k = val (ys.take (k + 1)) * val xs∧(∀ j,k + S≤j→zs.getD j 0 = 0)):=⟨by rw [hv];exact hrp,hzz⟩
        clear hc e0 HY hN hM hY wy hrp hv hzz
        go_wp2
        clear t1 fY
        go_loopw [10,11] (fun cc ii wq=>∃ (m C:Nat) (us:List Int),cc = .int .u64 (C:Int)∧ii = .int .i64 m∧m≤S∧Rw wq g (S + T) us∧us.length = S + T∧Wd us∧C < 4294967296∧val us + C * 4294967296 ^ (k + m) = val zs + val (xs.take m) * Y * 4294967296 ^ k∧(∀ j,k + m≤j→us.getD j 0 = zs.getD j 0)∧Kp w wq) (fun _ i _=>S - (intOf i).toNat)
        case atStart=>exact ⟨0,0,zs,rfl,rfl,Nat.zero_le _,hrow,hzl,hwz,by omega,by simp [val],fun j _=>rfl,hkp⟩
        case round =>
          clear hrow hwz hkp e1
          obtain ⟨m,C,us,rfl,rfl,hm,hrow,hul,hwu,hC,hv,hsam,hkp⟩:=hrel
          obtain ⟨hN,hM⟩:=HN.out
          by_cases cm:m < S
          · obtain ⟨b',off',rfl,hc'⟩:=HX.out.1.at (k:=m) (by omega)
            have e2:=kkeep hkp (hc' m (by omega))
            have e1:=World.rowIs.cell hrow (i:=m + k) (by omega)
            have wx:=HX.out.2.1 m
            have wz:=hwu (m + k)
            obtain ⟨X,hX⟩:∃ X:Nat,(X:Int) = xs.getD m 0:=⟨(xs.getD m 0).toNat,by omega⟩
            obtain ⟨Z0,hZ0⟩:∃ Z0:Nat,(Z0:Int) = us.getD (m + k) 0:=⟨(us.getD (m + k) 0).toNat,by omega⟩
            rw [← hX] at e2
            rw [← hZ0] at e1
            have hmw:=mul_word X Y C Z0 (by omega) hY32 hC (by omega)
            obtain ⟨P,hP⟩:∃ P,P = X * Y:=⟨_,rfl⟩
            rw [← hP] at hmw
            obtain ⟨Q,hQ⟩:∃ Q:Nat,Q = (Z0:Int).toNat + ((P:Nat):Int).toNat + C:=⟨_,rfl⟩
            rw [Nat.add_comm m k] at hZ0
            have hst:=sum_step us (k + m) C Q _ (Z0:Int) (P:Int) (by omega) hZ0.symm hQ hv
            simp only [Int.toNat_natCast] at hQ hst
            have hg2:=mul_grow xs Y k m
            rw [← hX,Int.toNat_natCast,← hP] at hg2
            rw [Nat.add_assoc (val zs),← hg2,Nat.add_assoc k m 1] at hst
            have f1:IntKind.u64.wrap (X:Int) = (X:Int):=by rw [IntKind.wrap_u64];omega
            have f2:IntKind.u64.wrap ((X:Int) * (Y:Int)) = (P:Int):=by
              have:(X:Int) * (Y:Int) = (P:Int):=by rw [hP];exact (Int.natCast_mul X Y).symm
              rw [this,IntKind.wrap_u64];omega
            have f3:IntKind.u64.wrap (Z0:Int) = (Z0:Int):=by rw [IntKind.wrap_u64];omega
            have f4:IntKind.u64.wrap ((C:Int) + (Z0:Int)) = (C:Int) + (Z0:Int):=by rw [IntKind.wrap_u64];omega
            have f5:IntKind.u64.wrap ((C:Int) + (Z0:Int) + (P:Int)) = (Q:Int):=by rw [IntKind.wrap_u64];omega
            have f8:=and32 Q (by omega)
            obtain ⟨Z,hZ⟩:∃ Z:Nat,Z = Q % 4294967296:=⟨_,rfl⟩
            obtain ⟨C',hC2⟩:∃ C':Nat,C' = Q / 4294967296:=⟨_,rfl⟩
            rw [← hZ] at f8
            have f6:IntKind.u32.wrap (Z:Int) = (Z:Int):=by rw [IntKind.wrap_u32];omega
            have f7:(Q:Int) / 4294967296 = (C':Int):=by omega
            rw [← hZ,← hC2] at hst
            have hC':C' < 4294967296:=by omega
            have hw2:Wd (us.set (m + k) (Z:Int)):=hwu.set (m + k) Z (by omega)
            have hl2:(us.set (m + k) (Z:Int)).length = S + T:=by rw [List.length_set];exact hul
            have hsam2:∀ j,k + (m + 1)≤j→(us.set (m + k) (Z:Int)).getD j 0 = zs.getD j 0:=fun j h1=>by
              rw [← hsam j (by omega)];simp [List.getD,show ¬ m + k = j from by omega]
            have ekm:k + m = m + k:=Nat.add_comm k m
            rw [ekm] at hst
            clear ekm
            have hik:m + k < us.length:=by omega
            have hik2:m + k < S + T:=by omega
            have j0:(0:Int)≤(m:Int):=by omega
            have j1:(m:Int) < (S:Int):=by omega
            have j2:(m:Int) < (N:Int):=by omega
            have j3:(0:Int)≤(m:Int) + (k:Int):=by omega
            have j4:(m:Int) + (k:Int) < (S:Int) + (T:Int):=by omega
            have hgw:w.heap.size≤g:=by rw [HG.out];exact Nat.le_refl _
            clear hc' HX HN HG hN hM hX hZ0 hZ hC2 hQ hv hP hg2 wx wz hwu hC hsam hul hmw HV hzl
            go_wp2
            refine wp_region_kp (by kernel_rfl) (by kernel_rfl) (fun ι _ G hG hall=>?_)
            have c0:∀ n,(G n).cell? ⟨g,m + k,none⟩ = some (.int .u32 (Z0:Int)):=fun n=>kkeep (hG n) e1
            have c1:∀ n,(G n).cell? ⟨b',off' + m,none⟩ = some (.int .u32 (X:Int)):=fun n=>kkeep (hG n) e2
            repeat (go_big_quiet_step (fail))
            refine wpQuiet_nil ?_
            rintro _ ⟨nq,rfl⟩
            have gq:=hG nq
            replace hrow:=hrow.grown gq
            have e3:=World.rowIs.cell hrow (i:=m + k) hik2
            have e4:=World.rowIs.frozen hrow (m + k)
            have hR:=hrow.set (m + k) (Z:Int) hik
            have hK:=(hkp.trans gq).setCell (p:=⟨g,m + k,none⟩) hgw (.int .u32 (Z:Int))
            clear c0 c1 hall hG gq e1 e2 hrow hkp
            go_wp2
            exact ⟨⟨m + 1,C',us.set (m + k) (Z:Int),by go_num,by go_num,by omega,hR,hl2,hw2,hC',hst,hsam2,hK⟩,by simp [intOf];omega⟩
          · have hmS:m = S:=by omega
            subst hmS
            have hvx:=HX.out.2.2
            rw [hvx] at hv
            obtain ⟨hV1,hV2⟩:=HV.out
            have hu0:us.getD (k + m) 0 = 0:=by rw [hsam _ (Nat.le_refl _)];exact hV2 _ (Nat.le_refl _)
            have hvs:=val_set us (k + m) (C:Int) (by omega)
            rw [hu0,Int.toNat_natCast,hv,hV1] at hvs
            have hv3:val (us.set (k + m) (C:Int)) = val (ys.take (k + 1)) * val xs:=by simpa using hvs
            have hgw:w.heap.size≤g:=by rw [HG.out];exact Nat.le_refl _
            have hR:=hrow.set (k + m) (C:Int) (by omega)
            have hK:Kp w (wr.setCell ⟨g,k + m,none⟩ (.int .u32 (C:Int))):=hkp.setCell hgw _
            have hw3:Wd (us.set (k + m) (C:Int)):=hwu.set _ _ (by omega)
            have hl3:(us.set (k + m) (C:Int)).length = m + T:=by rw [List.length_set];exact hul
            have hz3:∀ j,k + 1 + m≤j→(us.set (k + m) (C:Int)).getD j 0 = 0:=fun j hj=>by
              have e1:(us.set (k + m) (C:Int)).getD j 0 = us.getD j 0:=by simp [List.getD,show ¬ k + m = j from by omega]
              rw [e1,hsam j (by omega)]
              exact hV2 j (by omega)
            have e3:=World.rowIs.cell hrow (i:=k + m) (by omega)
            have e4:=World.rowIs.frozen hrow (k + m)
            have f6:IntKind.u32.wrap (C:Int) = (C:Int):=by rw [IntKind.wrap_u32];omega
            have i2:¬ ((m:Int) < (m:Int)):=by omega
            have j3:(0:Int)≤(k:Int) + (m:Int):=by omega
            have j4:(k:Int) + (m:Int) < (m:Int) + (T:Int):=by omega
            clear HX HN HG hN hM hv hvs hsam hkp hrow HV hV1 hV2 hvx hwu hul hu0 hC cm hm hzl
            go_wp2
            exact ⟨⟨k + 1,us.set (k + m) (C:Int),by go_num,by omega,hR,hl3,hw3,hv3,hz3,hK⟩,by simp [intOf];omega⟩
    · have hkN:k = T:=by omega
      subst hkN
      have hvy:=HY.out.2.2
      rw [hvy] at hv
      have hA:=hrow.arr (S + k) (Nat.le_refl _) (by omega)
      rw [List.take_of_length_le (by omega)] at hA
      have hno:=rnorm_ (some ⟨g,0,none⟩) (S + k) zs wr hA (by omega)
      rw [nz_dig zs hwz,hv,hzl,Nat.mul_comm] at hno
      have hsz:=hkp.size
      have i2:¬ ((k:Int) < (k:Int)):=by omega
      clear hA hrow hzl hwz hv HX HY HN HG hN hM hzz hvy hk ck
      go_wp2_with fail
      refine hno.mono ?_
      rintro e w2 ⟨v2,rfl,hO2,hk2⟩
      clear hno
      go_wp2
      exact bodyPost_ret (v:=v2) (by simp [results,Tryz.results31,go_sem] <;> simp only [*]) rfl ⟨v2,rfl,hO2.mono hsz,hkp.trans hk2⟩
theorem w64x (z:Int) (h0:-1099511627776≤z) (h1:z≤1099511627776):wrap64 z = z:=by unfold wrap64;omega
theorem rsign_ (neg:Bool) (vn vd:Value) (n:Nat) (w:World) (hn:Ls w vn (dig n)) (l:blen n≤33554432) :
    Calls Tryz.prog 16 #[.agg #[.bool neg,vn,vd]] w fun e w'=>e = .returned (.int .i64 (if n = 0 then 0 else if neg then -1 else 1))∧Kp w w':=by
  obtain ⟨w0,hw0⟩:∃ w0,w0 = w.alloc (.cells #[.bool neg,vn,vd] 27):=⟨_,rfl⟩
  have hk0:Kp w w0:=by rw [hw0];exact (Kp.refl w).alloc _
  have c0:w0.cell? ⟨w.heap.size,0,none⟩ = some (.bool neg):=by rw [hw0];simp [go_sem]
  have hc:=normR vn (dig n) w0 (hn.kp hk0) (Wd_dig n) (dlen n 1048576 (by omega))
  rw [val_dig] at hc
  have hlz:=dig_len_zero n
  obtain ⟨M,hM⟩:∃ M,M = (dig n).length:=⟨_,rfl⟩
  have HM:Hid (M = (dig n).length):=hM
  rw [← hM] at hlz
  clear hn l hM
  by_cases cz:n = 0
  · have hM0:M = 0:=hlz.2 cz
    rw [if_pos cz]
    clear hlz cz
    go_enter Tryz.func16,Tryz.ntmps16
    go_wp2_with fail
    rw [← hw0]
    refine hc.mono ?_;rintro e w1 ⟨v1,rfl,⟨p1,c1,rfl,_,_⟩,hk⟩
    rw [← HM.out]
    subst hM0
    have K1:Kp w w1:=hk0.trans hk
    clear hc hk hw0 hk0 c0
    go_wp2
    exact bodyPost_ret (v:=.int .i64 0) (by simp [results,Tryz.results16,go_sem]) rfl ⟨rfl,K1⟩
  · have hM0:¬ ((M:Int) = 0):=by have:=mt hlz.1 cz;omega
    rw [if_neg cz]
    clear hlz cz
    go_enter Tryz.func16,Tryz.ntmps16
    go_wp2_with fail
    rw [← hw0]
    refine hc.mono ?_;rintro e w1 ⟨v1,rfl,⟨p1,c1,rfl,_,_⟩,hk⟩
    rw [← HM.out]
    have K1:Kp w w1:=hk0.trans hk
    have c1':=kkeep hk c0
    clear hc hk hw0 hk0 c0
    cases neg
    · go_wp2
      exact bodyPost_ret (v:=.int .i64 1) (by simp [results,Tryz.results16,go_sem]) rfl ⟨rfl,K1⟩
    · go_wp2
      exact bodyPost_ret (v:=.int .i64 (-1)) (by simp [results,Tryz.results16,go_sem]) rfl ⟨rfl,K1⟩
theorem upward_ (d:Int) (S r wh:Nat) (w:World) (hr:r < 4611686018427387904) :
    Calls Tryz.prog 143 #[.int .i64 d,.int .u64 (S:Int),.int .u64 (r:Int),.int .u64 (wh:Int)] w fun e w'=>e = .returned (.bool (upw d S r wh))∧w' = w:=by
  unfold upw
  obtain ⟨r2,hr2⟩:∃ r2,r2 = 2 * r:=⟨_,rfl⟩
  have g1:IntKind.u64.wrap (2 * (r:Int)) = (r2:Int):=by rw [IntKind.wrap_u64];omega
  rw [← hr2]
  by_cases c1:d = 1
  · rw [if_pos c1]
    have e1:(d == 1) = true:=by simp [c1]
    clear hr g1 hr2 c1
    by_cases cr:0 < r
    · rw [decide_eq_true cr]
      have t1:0 < (r:Int):=by omega
      clear cr
      go_enter Tryz.func143,Tryz.ntmps143
      go_wp2
      exact bodyPost_ret (v:=.bool true) (by simp [results,Tryz.results143,go_sem] <;> omega) rfl ⟨rfl,rfl⟩
    · rw [decide_eq_false cr]
      have t1:r = 0:=by omega
      subst t1
      clear cr
      go_enter Tryz.func143,Tryz.ntmps143
      go_wp2
      exact bodyPost_ret (v:=.bool false) (by simp [results,Tryz.results143,go_sem] <;> omega) rfl ⟨rfl,rfl⟩
  · rw [if_neg c1]
    have e1:(d == 1) = false:=by simp [c1]
    by_cases c2:d = -1
    · rw [if_pos c2]
      have e2:(d == -1) = true:=by simp [c2]
      clear hr g1 hr2 c1 c2
      go_enter Tryz.func143,Tryz.ntmps143
      go_wp2
      exact bodyPost_ret (v:=.bool false) (by simp [results,Tryz.results143,go_sem] <;> omega) rfl ⟨rfl,rfl⟩
    · rw [if_neg c2]
      have e2:(d == -1) = false:=by simp [c2]
      clear hr hr2 c1 c2
      by_cases ca:wh < r2
      · rw [decide_eq_true ca]
        have t1:(wh:Int) < (r2:Int):=by omega
        rw [Bool.true_or]
        clear ca
        go_enter Tryz.func143,Tryz.ntmps143
        go_wp2
        exact bodyPost_ret (v:=.bool true) (by simp [results,Tryz.results143,go_sem] <;> omega) rfl ⟨rfl,rfl⟩
      · rw [decide_eq_false ca,Bool.false_or]
        have t1:¬ ((wh:Int) < (r2:Int)):=by omega
        by_cases cb:wh = r2
        · have t2:((r2:Int) == (wh:Int)) = true:=by simp;omega
          rw [decide_eq_true cb,Bool.true_and]
          have HC:Hid (wh = r2):=cb
          clear ca cb
          rcases (by omega:S % 2 = 0∨S % 2 = 1) with cp | cp
          · have t3:(S:Int) % 2 = 0:=by omega
            rw [cp]
            clear cp
            go_enter Tryz.func143,Tryz.ntmps143
            go_wp2
            exact bodyPost_ret (v:=.bool false) (by simp [results,Tryz.results143,go_sem] <;> omega) rfl ⟨rfl,rfl⟩
          · have t3:(S:Int) % 2 = 1:=by omega
            rw [cp]
            clear cp
            go_enter Tryz.func143,Tryz.ntmps143
            go_wp2
            exact bodyPost_ret (v:=.bool true) (by simp [results,Tryz.results143,go_sem] <;> omega) rfl ⟨rfl,rfl⟩
        · have t2:((r2:Int) == (wh:Int)) = false:=by simp;omega
          rw [decide_eq_false cb,Bool.false_and]
          clear ca cb
          go_enter Tryz.func143,Tryz.ntmps143
          go_wp2
          exact bodyPost_ret (v:=.bool false) (by simp [results,Tryz.results143,go_sem] <;> omega) rfl ⟨rfl,rfl⟩
theorem minf_ (neg:Bool) (w:World):Calls Tryz.prog 57 #[.int .i64 (if neg = true then -1 else 1)] w fun e w'=>e = .returned (.float .f64 (Fq.wD neg 9218868437227405312))∧w' = w:=by
  have h1:∀ w:World,(callFunc 66 #[.int .u64 18442240474082181120]).run Tryz.prog w = .ok (.value (.float .f64 18442240474082181120)) w:=fun w=>Fq.ff64 18442240474082181120 w
  have h2:∀ w:World,(callFunc 66 #[.int .u64 9218868437227405312]).run Tryz.prog w = .ok (.value (.float .f64 9218868437227405312)) w:=fun w=>Fq.ff64 9218868437227405312 w
  cases neg
  · go_enter Tryz.func57,Tryz.ntmps57
    go_wp2
    exact bodyPost_ret (v:=.float .f64 9218868437227405312) (by simp [results,Tryz.results57,go_sem]) rfl ⟨rfl,rfl⟩
  · go_enter Tryz.func57,Tryz.ntmps57
    go_wp2
    exact bodyPost_ret (v:=.float .f64 18442240474082181120) (by simp [results,Tryz.results57,go_sem]) rfl ⟨rfl,rfl⟩
theorem infD_false (w:World):Calls Tryz.prog 125 #[.bool false] w fun e w'=>e = .returned (.float .f64 (Fq.wD false 9218868437227405312))∧w' = w:=by
  have h:=minf_ false w
  have h':Calls Tryz.prog 57 #[.int .i64 (1)] w fun e w'=>e = .returned (.float .f64 9218868437227405312)∧w' = w:=h
  clear h
  go_enter Tryz.func125,Tryz.ntmps125
  go_wp2_with fail
  refine h'.mono ?_;rintro e w' ⟨rfl,hw'⟩;obtain rfl:=hw'.symm;clear h' hw'
  go_wp2
  exact bodyPost_ret (v:=.float .f64 9218868437227405312) (by simp [results,Tryz.results125,go_sem]) rfl ⟨rfl,rfl⟩
theorem infD_true (w:World):Calls Tryz.prog 125 #[.bool true] w fun e w'=>e = .returned (.float .f64 (Fq.wD true 9218868437227405312))∧w' = w:=by
  have h:=minf_ true w
  have h':Calls Tryz.prog 57 #[.int .i64 (-1)] w fun e w'=>e = .returned (.float .f64 18442240474082181120)∧w' = w:=h
  clear h
  go_enter Tryz.func125,Tryz.ntmps125
  go_wp2_with fail
  refine h'.mono ?_;rintro e w' ⟨rfl,hw'⟩;obtain rfl:=hw'.symm;clear h' hw'
  go_wp2
  exact bodyPost_ret (v:=.float .f64 18442240474082181120) (by simp [results,Tryz.results125,go_sem]) rfl ⟨rfl,rfl⟩
theorem infD_ (neg:Bool) (w:World):Calls Tryz.prog 125 #[.bool neg] w fun e w'=>e = .returned (.float .f64 (Fq.wD neg 9218868437227405312))∧w' = w:=by
  cases neg
  · exact infD_false w
  · exact infD_true w
theorem greDp_ (neg:Bool) (w:World):Calls Tryz.prog 145 #[.bool neg] w fun e w'=>e = .returned (.float .f64 (Fq.wD neg 9218868437227405311))∧Fq.Grown w w':=by
  have h:=infD_ neg w
  obtain ⟨Z,hZ⟩:∃ Z,Z = Fq.wD neg 9218868437227405312:=⟨_,rfl⟩
  obtain ⟨Y,hY⟩:∃ Y,Y = Fq.wD neg 9218868437227405311:=⟨_,rfl⟩
  cases neg
  · have hd:=Fq.dn_d false 9218868437227405312 (by decide) (by decide) w
    rw [show Fq.fD (Fq.plz false 9218868437227405312 - 1) = Fq.wD false 9218868437227405311 from rfl,← hZ,← hY] at hd
    rw [← hZ] at h
    rw [← hY]
    clear hZ hY
    go_enter Tryz.func145,Tryz.ntmps145
    go_wp2_with fail
    refine h.mono ?_;rintro e w' ⟨rfl,hw'⟩;obtain rfl:=hw'.symm;clear h hw'
    go_wp2_with fail
    refine hd.mono ?_;rintro e w1 ⟨rfl,hk⟩;clear hd
    go_wp2
    exact bodyPost_ret (v:=.float .f64 Y) (by simp [results,Tryz.results145,go_sem]) rfl ⟨rfl,hk⟩
  · have hd:=Fq.up_d true 9218868437227405312 (by decide) (by decide) w
    rw [show Fq.fD (Fq.plz true 9218868437227405312 + 1) = Fq.wD true 9218868437227405311 from rfl,← hZ,← hY] at hd
    rw [← hZ] at h
    rw [← hY]
    clear hZ hY
    go_enter Tryz.func145,Tryz.ntmps145
    go_wp2_with fail
    refine h.mono ?_;rintro e w' ⟨rfl,hw'⟩;obtain rfl:=hw'.symm;clear h hw'
    go_wp2_with fail
    refine hd.mono ?_;rintro e w1 ⟨rfl,hk⟩;clear hd
    go_wp2
    exact bodyPost_ret (v:=.float .f64 Y) (by simp [results,Tryz.results145,go_sem]) rfl ⟨rfl,hk⟩
theorem fmtD_ (w:World):Calls Tryz.prog 141 #[] w fun e w'=>e = .returned (.tuple #[.int .i64 53,.int .i64 (-1074)])∧Fq.Grown w w':=by
  have h1:=Fq.split_d false 4607182418800017408 (by decide)
  have h0:=Fq.split_d false 0 (by decide)
  rw [show Fq.wD false 4607182418800017408 = 4607182418800017408 from rfl,show (false && !(4607182418800017408 == 0)) = false from rfl,show (((Fq.sgD 4607182418800017408:Nat):Int)) = 4503599627370496 from by decide +kernel] at h1
  rw [show Fq.wD false 0 = 0 from rfl,show (false && !(0 == 0)) = false from rfl,show Fq.epD 0 = -1074 from by decide +kernel] at h0
  obtain ⟨e1,he1⟩:∃ e1,e1 = Fq.epD 4607182418800017408:=⟨_,rfl⟩
  obtain ⟨s0,hs0⟩:∃ s0:Int,s0 = ((Fq.sgD 0:Nat):Int):=⟨_,rfl⟩
  rw [← he1] at h1
  rw [← hs0] at h0
  have hl:=Fq.len64_ 4503599627370496 (by decide) (by decide)
  rw [show ((Lib.bitLen (4503599627370496:Int).toNat:Nat):Int) = 53 from by decide +kernel] at hl
  have c1:floatOfInt .f64 1 = 4607182418800017408:=by decide +kernel
  have c0:floatOfInt .f64 0 = 0:=by decide +kernel
  clear he1 hs0
  go_enter Tryz.func141,Tryz.ntmps141
  go_wp2_with fail
  refine (h1 _).mono ?_;rintro e w1 ⟨rfl,hk⟩;clear h1
  go_wp2_with fail
  refine (h0 _).mono ?_;rintro e w2 ⟨rfl,hk2⟩;clear h0
  have hk3:=Fq.gtrans hk hk2
  have hl2:=hl w2
  clear hl hk hk2
  go_wp2_with fail
  refine hl2.mono ?_;rintro e w' ⟨rfl,hw'⟩;obtain rfl:=hw'.symm;clear hl2 hw'
  go_wp2
  exact bodyPost_ret (v:=.tuple #[.int .i64 53,.int .i64 (-1074)]) (by simp [results,Tryz.results141,go_sem]) rfl ⟨rfl,hk3⟩
theorem noTop (n:Bool) (m X:Nat) (hm:m < 9223372036854775808) (hX:X = Fq.wD n m):bits BinOp.andNot IntKind.u64 (X:Int) 9223372036854775808 = (m:Int)∧X < 18446744073709551616:=by
  have hX9:X < 18446744073709551616:=by rw [hX];unfold Fq.wD;split <;> omega
  have h:=u64_andNot_nat X 9223372036854775808 hX9 (by decide)
  have e:X % 9223372036854775808 = m:=by rw [hX];unfold Fq.wD;split <;> omega
  rw [show 18446744073709551615 - 9223372036854775808 = 2 ^ 63 - 1 from by decide,Nat.and_two_pow_sub_one_eq_mod,show (2:Nat) ^ 63 = 9223372036854775808 from by decide,e] at h
  exact ⟨h,hX9⟩
theorem abs_ (n:Bool) (m:Nat) (hm:m < 9223372036854775808) (w:World):Calls Tryz.prog 69 #[.float .f64 (Fq.wD n m)] w fun e w'=>e = .returned (.float .f64 m)∧w' = w:=by
  obtain ⟨X,hX⟩:∃ X,X = Fq.wD n m:=⟨_,rfl⟩
  have f1:=(noTop n m X hm hX).1
  rw [← hX]
  clear hX hm
  have h1:=Fq.fb64 X
  have h2:=Fq.ff64 m
  go_enter Tryz.func69,Tryz.ntmps69
  go_wp2
  exact bodyPost_ret (v:=.float .f64 m) (by simp [results,Tryz.results69,go_sem]) rfl ⟨rfl,rfl⟩
open Ieee in
theorem fin_order (m:Nat) (hm:m < 9223372036854775808):(FloatKind.f64.format.order m 9218868437227405311 == some Ordering.lt || FloatKind.f64.format.order m 9218868437227405311 == some Ordering.eq) = decide (m < 9218868437227405312):=by
  have hf:FloatKind.f64.format = double:=rfl
  have hi:double.infRung = 9218868437227405312:=by decide +kernel
  have hw:double.signWeight = 9223372036854775808:=by decide +kernel
  have hb:double.binade≤double.infRung:=by decide +kernel
  have r1:Fq.rg double m = m:=by unfold Fq.rg;rw [hw];exact Nat.mod_eq_of_lt hm
  have r2:Fq.rg double 9218868437227405311 = 9218868437227405311:=by unfold Fq.rg;rw [hw]
  have p1:Fq.pl double m = (m:Int):=by
    unfold Fq.pl Fq.ng
    rw [r1,hw,Nat.div_eq_of_lt hm];rfl
  have p2:Fq.pl double 9218868437227405311 = 9218868437227405311:=by
    unfold Fq.pl Fq.ng
    rw [r2,hw];rfl
  rw [hf]
  by_cases c:m≤9218868437227405312
  · rw [Fq.order_num double m 9218868437227405311 hb (by rw [r1,hi];exact c) (by rw [r2,hi];decide),p1,p2]
    by_cases c1:m < 9218868437227405312
    · rw [decide_eq_true c1]
      by_cases c2:m = 9218868437227405311
      · rw [c2];rfl
      · rw [show compare (m:Int) 9218868437227405311 = Ordering.lt from by rw [Int.compare_eq_lt];omega];rfl
    · rw [decide_eq_false c1,show compare (m:Int) 9218868437227405311 = Ordering.gt from by rw [Int.compare_eq_gt];omega];rfl
  · rw [Fq.order_nan_left double m 9218868437227405311 hb (by rw [r1,hi];omega),decide_eq_false (by omega)];rfl
theorem finite_ (n:Bool) (m:Nat) (hm:m < 9223372036854775808) (w:World):Calls Tryz.prog 62 #[.float .f64 (Fq.wD n m)] w fun e w'=>e = .returned (.bool (decide (m < 9218868437227405312)))∧w' = w:=by
  have h:=abs_ n m hm w
  obtain ⟨X,hX⟩:∃ X,X = Fq.wD n m:=⟨_,rfl⟩
  rw [← hX] at h ⊢
  clear hX
  go_enter Tryz.func62,Tryz.ntmps62
  go_wp2_with fail
  refine h.mono ?_;rintro e w' ⟨rfl,hw'⟩;obtain rfl:=hw'.symm;clear h hw'
  go_wp2
  exact bodyPost_ret (v:=.bool (decide (m < 9218868437227405312))) (by rw [← fin_order m hm];simp [results,Tryz.results62,go_sem]) rfl ⟨rfl,rfl⟩
end Go.Proofs.YtaidnpjgkkdloaaGreatDoor
