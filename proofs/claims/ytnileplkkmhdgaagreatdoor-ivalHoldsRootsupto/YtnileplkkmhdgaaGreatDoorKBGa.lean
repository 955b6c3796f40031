import Derived.Test.YtnileplkkmhdgaaGreatDoorKBY
set_option maxHeartbeats 3000000
set_option maxRecDepth 20000
namespace Go.Proofs.YtnileplkkmhdgaaGreatDoor
open Go.RowKit
set_option linter.unusedVariables false
set_option linter.unusedSimpArgs false
theorem rleftB_ (p:Option Addr) (c m:Nat) (xs:List Int) (w:World) (hx:Arr w p xs) (hwx:Wd xs) (lx:xs.length≤8388608) (hm:m≤134217728) :
    Calls Tryz.prog 55 #[.slice p xs.length c,.int .i64 (m:Int)] w fun e w'=>∃ v,e = .returned v∧Own w' w.heap.size v (dig (val xs * 2 ^ m))∧Kp w w':=by
  have h1:=words_ p c xs w hx (by omega)
  have lS:=tl_le xs
  have hvx:=val_tl xs
  obtain ⟨N,hN⟩:∃ N,N = xs.length:=⟨_,rfl⟩
  obtain ⟨S,hS⟩:∃ S,S = tl xs:=⟨_,rfl⟩
  rw [← hS] at h1 lS hvx
  rw [← hN] at h1 lS lx ⊢
  rcases Nat.eq_zero_or_pos S with h0 | h0
  · subst h0
    have e0:val xs = 0:=by rw [← hvx];rfl
    rw [e0,Nat.zero_mul,dig_zero]
    clear hx hwx lx lS hN hS hvx e0 hm
    go_enter Tryz.func55,Tryz.ntmps55
    go_wp2_with fail
    refine h1.mono ?_;rintro e w' ⟨rfl,hw'⟩;obtain rfl:=hw'.symm
    go_wp2
    exact bodyPost_ret (v:=.slice none 0 0) (by simp [results,Tryz.results55,go_sem] <;> simp only [*]) rfl ⟨_,rfl,Own.nil _ _,Kp.refl _⟩
  · obtain ⟨o,ho⟩:∃ o,o = m / 32:=⟨_,rfl⟩
    obtain ⟨s,hs⟩:∃ s,s = m % 32:=⟨_,rfl⟩
    obtain ⟨L,hL⟩:∃ L,L = o + S + 1:=⟨_,rfl⟩
    have hps:=pow_split m
    rw [← ho,← hs] at hps
    have hmk:∀ w:World,(Instr.makeSlice 25 (.int .i64 ((o:Int) + (S:Int) + 1)) (.int .i64 ((o:Int) + (S:Int) + 1))).run Tryz.prog w = .ok (.slice (some ⟨w.heap.size,0,none⟩) L L) (w.alloc (.cells (madeCells #[.int .u32 0] L) 72)):=by
      have:=mk32 L (by omega)
      have e:((L:Nat):Int) = (o:Int) + (S:Int) + 1:=by omega
      rw [e] at this
      exact this
    have hk1:Kp w (w.alloc (.cells (madeCells #[.int .u32 0] L) 72)):=(Kp.refl w).alloc _
    have hrz:Rw (w.alloc (.cells (madeCells #[.int .u32 0] L) 72)) w.heap.size L (List.replicate L 0):=World.rowIs.congr (World.rowIs_made w (.int .u32 0) L 72) (fun j _=>by rw [rep0_getD])
    obtain ⟨zs0,hz0⟩:∃ zs0,zs0 = List.replicate L (0:Int):=⟨_,rfl⟩
    have hzl0:zs0.length = L:=by rw [hz0];simp
    have hwz0:Wd zs0:=by rw [hz0];exact Wd_rep0 _
    have hzz0:∀ j,zs0.getD j 0 = 0:=fun j=>by rw [hz0];exact rep0_getD _ _
    have hvz0:=val_zeros zs0 hzz0
    rw [← hz0] at hrz
    obtain ⟨g,hg⟩:∃ g,g = w.heap.size:=⟨_,rfl⟩
    rw [← hg] at hrz
    have f1:(m:Int) / 32 = (o:Int):=by omega
    have f2:(m:Int) % 32 = (s:Int):=by omega
    have f3:IntKind.u64.wrap (s:Int) = (s:Int):=by rw [IntKind.wrap_u64];omega
    have t0:((S:Int) == 0) = false:=by simp;omega
    have i00:(0:Int)≤(s:Int):=by omega
    have lS2:S≤8388608:=by omega
    have lo:o≤4194304:=by omega
    have HX:Hid (Arr w p xs∧Wd xs∧val (xs.take S) = val xs∧N = xs.length∧S≤N∧L = o + S + 1∧s < 32∧g = w.heap.size∧2 ^ s * 4294967296 ^ o = 2 ^ m):=⟨hx,hwx,hvx,hN,lS,hL,by omega,hg,hps⟩
    clear hx hwx hN hS hvx lS hL ho hs hps hz0 lx h0 hm
    go_enter Tryz.func55,Tryz.ntmps55
    go_wp2_with fail
    refine h1.mono ?_;rintro e w' ⟨rfl,hw'⟩;obtain rfl:=hw'.symm
    clear h1
    go_wp2
    rw [← hg]
    clear hmk hg t0
    go_loopw [8] (fun i wr=>∃ (k C:Nat) (us:List Int),i = .int .i64 k∧k≤S∧Rw wr g L us∧us.length = L∧Wd us∧us.getD (o + k) 0 = (C:Int)∧C < 2 ^ s∧val us = val (xs.take k) * 2 ^ s * 4294967296 ^ o∧(∀ j,o + k < j→us.getD j 0 = 0)∧Kp w wr) (fun i _=>S - (intOf i).toNat)
    case atStart=>exact ⟨0,0,zs0,rfl,Nat.zero_le _,hrz,hzl0,hwz0,hzz0 _,Nat.two_pow_pos s,by rw [hvz0];simp [val],fun j _=>hzz0 j,hk1⟩
    case round =>
      clear hrz hzl0 hwz0 hzz0 hvz0 hk1
      obtain ⟨k,C,us,rfl,hk,hrow,hul,hwu,hCe,hC,hv,hz,hkp⟩:=hrel
      obtain ⟨hx,hwx,hvx,hN,lS,hL,hs,hg,hps⟩:=HX.out
      by_cases ck:k < S
      · obtain ⟨b,off,rfl,hc⟩:=hx.at (k:=k) (by omega)
        have e0:=hc k (by omega)
        have e1:=kkeep hkp e0
        have wx:=hwx k
        obtain ⟨X,hX⟩:∃ X:Nat,(X:Int) = xs.getD k 0:=⟨(xs.getD k 0).toNat,by omega⟩
        rw [← hX] at e1
        have h2s:2 ^ s≤2147483648:=by
          have:=Nat.pow_le_pow_right (show 0 < 2 by decide) (show s≤31 by omega)
          exact Nat.le_trans this (by decide)
        have hX32:X < 4294967296:=by omega
        obtain ⟨w1,w2,w3,w4⟩:=shl_word X C s hs hX32 hC
        have hV63:X * 2 ^ s < 18446744073709551616:=by
          have a1:X * 2 ^ s≤4294967295 * 2147483648:=Nat.mul_le_mul (by omega) h2s
          omega
        have hhi:X * 2 ^ s / 4294967296 = X / 2 ^ (32 - s):=by omega
        obtain ⟨V,hV⟩:∃ V,V = X * 2 ^ s:=⟨_,rfl⟩
        obtain ⟨H,hH⟩:∃ H,H = X / 2 ^ (32 - s):=⟨_,rfl⟩
        rw [← hV] at w1 w2 w4 hV63 hhi
        rw [← hH] at w3 w4 hhi
        have f4:IntKind.u64.wrap (X:Int) = (X:Int):=by rw [IntKind.wrap_u64];omega
        have f5:IntKind.u64.wrap ((X:Int) * 2 ^ s) = (V:Int):=by
          have:(X:Int) * 2 ^ s = (V:Int):=by rw [hV,Int.natCast_mul,Int.natCast_pow];rfl
          rw [this,IntKind.wrap_u64];omega
        have f6:=and32 V hV63
        obtain ⟨Y,hY⟩:∃ Y,Y = V % 4294967296:=⟨_,rfl⟩
        rw [← hY] at f6 w1 w2 w4
        have f7:IntKind.u32.wrap (Y:Int) = (Y:Int):=by rw [IntKind.wrap_u32];omega
        have f8:=u32_or_nat C Y (by omega) (by omega)
        rw [Nat.or_comm,w1] at f8
        have f9:(V:Int) / 4294967296 = (H:Int):=by omega
        have f10:IntKind.u32.wrap (H:Int) = (H:Int):=by rw [IntKind.wrap_u32];omega
        obtain ⟨Z,hZ⟩:∃ Z,Z = Y + C:=⟨_,rfl⟩
        rw [← hZ] at f8 w2 w4
        have hv1:=val_set us (o + k) (Z:Int) (by omega)
        rw [hCe,Int.toNat_natCast,Int.toNat_natCast] at hv1
        have hg1:(us.set (o + k) (Z:Int)).getD (o + k + 1) 0 = 0:=by
          have e2:(us.set (o + k) (Z:Int)).getD (o + k + 1) 0 = us.getD (o + k + 1) 0:=by simp [List.getD]
          rw [e2];exact hz _ (by omega)
        have hv2:=val_set (us.set (o + k) (Z:Int)) (o + k + 1) (H:Int) (by rw [List.length_set];omega)
        rw [hg1,Int.toNat_natCast] at hv2
        have hg2:=mul_grow xs (2 ^ s) o k
        rw [show (xs.getD k 0).toNat = X from by omega,← hV] at hg2
        have hval:val ((us.set (o + k) (Z:Int)).set (o + k + 1) (H:Int)) = val (xs.take (k + 1)) * 2 ^ s * 4294967296 ^ o:=by
          rw [hg2,← hv]
          rw [Nat.pow_succ] at hv2
          generalize 4294967296 ^ (o + k) = P at hv1 hv2 ⊢
          have e:=congrArg (· * P) w4
          simp only [Nat.add_mul] at e
          have e3:H * (P * 4294967296) = 4294967296 * H * P:=by simp only [Nat.mul_comm,Nat.mul_left_comm]
          simp at hv2
          omega
        have hw2:Wd ((us.set (o + k) (Z:Int)).set (o + k + 1) (H:Int)):=(hwu.set (o + k) Z (by omega)).set _ _ (by omega)
        have hl2:((us.set (o + k) (Z:Int)).set (o + k + 1) (H:Int)).length = L:=by rw [List.length_set,List.length_set];exact hul
        have hH2:((us.set (o + k) (Z:Int)).set (o + k + 1) (H:Int)).getD (o + (k + 1)) 0 = (H:Int):=by
          rw [← Nat.add_assoc];simp [List.getD,show o + k + 1 < us.length from by omega]
        have hz2:∀ j,o + (k + 1) < j→((us.set (o + k) (Z:Int)).set (o + k + 1) (H:Int)).getD j 0 = 0:=fun j h1=>by
          have e1:((us.set (o + k) (Z:Int)).set (o + k + 1) (H:Int)).getD j 0 = us.getD j 0:=by simp [List.getD,show ¬ o + k = j from by omega,show ¬ o + k + 1 = j from by omega]
          rw [e1];exact hz j (by omega)
        have e3:=World.rowIs.cell hrow (i:=o + k) (by omega)
        rw [hCe] at e3
        have e4:=World.rowIs.frozen hrow (o + k)
        have hR1:=hrow.set (o + k) (Z:Int) (by omega)
        have e5:=World.rowIs.cell hR1 (i:=o + k + 1) (by omega)
        have e6:=World.rowIs.frozen hR1 (o + k + 1)
        have hR2:=hR1.set (o + k + 1) (H:Int) (by rw [List.length_set];omega)
        have hgw:w.heap.size≤g:=by omega
        have hK:=(hkp.setCell (p:=⟨g,o + k,none⟩) hgw (.int .u32 (Z:Int))).setCell (p:=⟨g,o + k + 1,none⟩) hgw (.int .u32 (H:Int))
        have i0:(0:Int)≤(k:Int):=by omega
        have i1:(k:Int) < (S:Int):=by omega
        have i2:(k:Int) < (N:Int):=by omega
        have i3:(0:Int)≤(o:Int) + (k:Int):=by omega
        have i4:(o:Int) + (k:Int) < (L:Int):=by omega
        have i5:(0:Int)≤(o:Int) + (k:Int) + 1:=by omega
        have i6:(o:Int) + (k:Int) + 1 < (L:Int):=by omega
        have HH:Hid (H < 2 ^ s):=w3
        clear HX hx hwx hvx hN lS hL hs hg hps hc e0 wx hX hV hH hY hZ hCe hC hv hz hrow hul hwu hkp h2s hV63 hhi w1 w2 w3 w4 hv1 hv2 hg1 hg2 hR1 hX32
        go_wp2
        exact ⟨⟨k + 1,H,(us.set (o + k) (Z:Int)).set (o + k + 1) (H:Int),by go_num,by omega,hR2,hl2,hw2,hH2,HH.out,hval,hz2,hK⟩,by simp [intOf];omega⟩
      · have hkS:k = S:=by omega
        subst hkS
        rw [hvx,Nat.mul_assoc,hps] at hv
        have hA:=hrow.arr L (Nat.le_refl _) (by omega)
        rw [List.take_of_length_le (by omega)] at hA
        have hno:=rnorm_ (some ⟨g,0,none⟩) L us wr hA (by omega)
        rw [nz_dig us hwu,hv,hul] at hno
        have hsz:=hkp.size
        have i1:¬ ((k:Int) < (k:Int)):=by omega
        clear HX hx hwx hvx hN lS hL hs hg hps hA hrow hul hwu hCe hC hv hz hk ck
        go_wp2_with fail
        refine hno.mono ?_
        rintro e w2 ⟨v2,rfl,hO2,hk2⟩
        clear hno
        go_wp2
        exact bodyPost_ret (v:=v2) (by simp [results,Tryz.results55,go_sem] <;> simp only [*]) rfl ⟨v2,rfl,hO2.mono hsz,hkp.trans hk2⟩
theorem rrightB_ (p:Option Addr) (c m:Nat) (xs:List Int) (w:World) (hx:Arr w p xs) (hwx:Wd xs) (lx:xs.length≤8388608) (hm9:(m:Int) < 9223372036854775808) :
    Calls Tryz.prog 54 #[.slice p xs.length c,.int .i64 (m:Int)] w fun e w'=>∃ v,e = .returned (.tuple #[v,.bool (decide (val xs % 2 ^ m≠0))])∧Own w' w.heap.size v (dig (val xs / 2 ^ m))∧Kp w w':=by
  have h1:=words_ p c xs w hx (by omega)
  have lS:=tl_le xs
  obtain ⟨o,ho⟩:∃ o,o = m / 32:=⟨_,rfl⟩
  obtain ⟨s,hs⟩:∃ s,s = m % 32:=⟨_,rfl⟩
  have hpd:=pow_div (val xs) m
  rw [← ho,← hs] at hpd
  have hps:=pow_split m
  rw [← ho,← hs,Nat.mul_comm] at hps
  have hs32:s < 32:=by omega
  have f1:(m:Int) / 32 = (o:Int):=by omega
  have f2:(m:Int) % 32 = (s:Int):=by omega
  have hz0:tl xs = 0→val xs = 0:=fun h=>by rw [← val_tl xs,h];rfl
  have hz1:tl xs≠0→val xs≠0:=fun h h2=>by
    have:=val_ge_tl xs hwx 0 (by omega)
    rw [h2] at this
    simp at this
  rcases Nat.eq_zero_or_pos (tl xs) with h0 | h0
  · have e0:=hz0 h0
    rw [e0,Nat.zero_mod,Nat.zero_div,dig_zero]
    rw [h0] at h1
    obtain ⟨N,hN⟩:∃ N,N = xs.length:=⟨_,rfl⟩
    rw [← hN] at h1 ⊢
    have hb:decide ((0:Nat)≠0) = false:=by simp
    rw [hb]
    clear hx hwx lx lS hN h0 e0 hz0 hz1 hpd hps hs32 ho hs hm9 hb
    go_enter Tryz.func54,Tryz.ntmps54
    go_wp2_with fail
    refine h1.mono ?_;rintro e w' ⟨rfl,hw'⟩;obtain rfl:=hw'.symm
    go_wp2
    exact bodyPost_ret (v:=.tuple #[.slice none 0 0,.bool false]) (by simp [results,Tryz.results54,go_sem] <;> simp only [*]) rfl ⟨_,rfl,Own.nil _ _,Kp.refl _⟩
  have hv0:=hz1 (by omega)
  by_cases co:tl xs≤o
  · have hlt:val xs < 4294967296 ^ o:=by
      have h2:=val_take_lt xs hwx (tl xs)
      rw [val_tl] at h2
      exact Nat.lt_of_lt_of_le h2 (Nat.pow_le_pow_right (by decide) co)
    have e0:val xs / 2 ^ m = 0:=by rw [hpd,Nat.div_eq_of_lt hlt,Nat.zero_div]
    have e2:val xs % 2 ^ m = val xs:=Nat.mod_eq_of_lt (by rw [← hps];exact Nat.lt_of_lt_of_le hlt (Nat.le_mul_of_pos_right _ (Nat.two_pow_pos s)))
    have hb:decide (val xs % 2 ^ m≠0) = true:=decide_eq_true (by rw [e2];exact hv0)
    rw [e0,hb,dig_zero]
    obtain ⟨N,hN⟩:∃ N,N = xs.length:=⟨_,rfl⟩
    obtain ⟨S,hS⟩:∃ S,S = tl xs:=⟨_,rfl⟩
    rw [← hN,← hS] at h1
    rw [← hN]
    rw [← hS] at co h0
    have t0:((S:Int) == 0) = false:=by simp;omega
    have t1:(S:Int)≤(o:Int):=by omega
    have f3:=w64 (o:Int) (Int.natCast_nonneg _) (by omega)
    clear hx hwx lx lS hN h0 e0 hz0 hz1 hpd hps hs32 ho hs hm9 hb hS co hv0 hlt e2
    go_enter Tryz.func54,Tryz.ntmps54
    go_wp2_with fail
    refine h1.mono ?_;rintro e w' ⟨rfl,hw'⟩;obtain rfl:=hw'.symm
    go_wp2
    exact bodyPost_ret (v:=.tuple #[.slice none 0 0,.bool true]) (by simp [results,Tryz.results54,go_sem] <;> simp only [*]) rfl ⟨_,rfl,Own.nil _ _,Kp.refl _⟩
  obtain ⟨b,off,rfl,hcx⟩:=hx.at (k:=0) (by omega)
  have hnl:=nz_length xs
  have hg:∀ j,j < tl xs→(nz xs).getD j 0 = xs.getD j 0:=fun j hj=>by unfold nz;simp [List.getD,hj]
  have hvn:=val_nz xs
  have hwn:Wd (nz xs):=hwx.take _
  obtain ⟨zs,hzs⟩:∃ zs,zs = nz xs:=⟨_,rfl⟩
  rw [← hzs] at hnl hg hvn hwn
  rw [← hvn] at hpd ⊢
  have hc:∀ j,j < zs.length→w.cell? ⟨b,off + j,none⟩ = some (.int .u32 (zs.getD j 0)):=fun j hj=>by rw [hg j (by omega)];exact hcx j (by omega)
  obtain ⟨S,hS⟩:∃ S,S = tl xs:=⟨_,rfl⟩
  obtain ⟨N,hN⟩:∃ N,N = xs.length:=⟨_,rfl⟩
  rw [← hS] at h1 lS co h0 hnl
  rw [← hN] at h1 lS lx ⊢
  have wX:=hwn o
  obtain ⟨X0,hX0⟩:∃ X0:Nat,zs.getD o 0 = (X0:Int):=⟨(zs.getD o 0).toNat,by omega⟩
  have hlm:=lost_mod zs hwn o s X0 hs32 (by omega) hX0
  rw [hps] at hlm
  have hlw:=lost_word X0 s hs32
  rw [(val_div zs hwn o (by omega)).1] at hpd
  have hyl:(zs.drop o).length = S - o:=by rw [List.length_drop,hnl]
  have hwy:=hwn.drop o
  have hyz:∀ j,(zs.drop o).getD j 0 = zs.getD (o + j) 0:=fun j=>by simp [List.getD,List.getElem?_drop]
  obtain ⟨ys,hys⟩:∃ ys,ys = zs.drop o:=⟨_,rfl⟩
  rw [← hys] at hpd hyl hwy hyz
  rw [hpd]
  obtain ⟨RB,hRB⟩:∃ RB,RB = decide (val zs % 2 ^ m≠0):=⟨_,rfl⟩
  rw [← hRB]
  have e1:=hc o (by omega)
  rw [hX0] at e1
  obtain ⟨A1,hA1⟩:∃ A1,A1 = X0 * 2 ^ (31 - s) % 4294967296:=⟨_,rfl⟩
  rw [← hA1] at hlw
  have f4:IntKind.u32.wrap ((X0:Int) * 2 ^ (31 - s)) = (A1:Int):=by rw [IntKind.wrap_u32,hA1];exact (cast_shl X0 (31 - s)).symm
  obtain ⟨A2,hA2⟩:∃ A2,A2 = A1 * 2 % 4294967296:=⟨_,rfl⟩
  have f5:IntKind.u32.wrap ((A1:Int) * 2) = (A2:Int):=by rw [IntKind.wrap_u32,hA2];omega
  rw [← hA2] at hlw
  have f6:IntKind.u64.wrap (s:Int) = (s:Int):=by rw [IntKind.wrap_u64];omega
  have f7:IntKind.u64.wrap (31 - (s:Int)) = 31 - (s:Int):=by rw [IntKind.wrap_u64];omega
  have i11:(31 - (s:Int)).toNat = 31 - s:=by omega
  have i10:(0:Int)≤31 - (s:Int):=by omega
  have i9:(0:Int)≤(s:Int):=by omega
  have t0:((S:Int) == 0) = false:=by simp;omega
  have t1:¬ ((S:Int)≤(o:Int)):=by omega
  have iz:(0:Int)≤(o:Int):=by omega
  have i1:(o:Int) < (N:Int):=by omega
  have lo:o≤8388608:=by omega
  have hlost:∃ LB:Bool,LB = decide (X0 % 2 ^ s≠0)∧((A2:Int) != 0) = LB∧(LB = true→(0:Int) < (s:Int)):=by
    refine ⟨_,rfl, ?_,fun h=>?_⟩
    · by_cases e:X0 % 2 ^ s = 0
      · have:A2 = 0:=by rw [hlw,e,Nat.zero_mul]
        simp [e,this]
      · have:0 < A2:=by rw [hlw];exact Nat.mul_pos (by omega) (Nat.two_pow_pos _)
        simp [e];omega
    · by_cases e:s = 0
      · rw [e,Nat.pow_zero,Nat.mod_one] at h;simp at h
      · omega
  obtain ⟨LB,hLB,t2,t3⟩:=hlost
  have HX2:Hid (Wd zs∧zs.length = S∧ys.length = S - o∧Wd ys∧(∀ j,j < zs.length→w.cell? ⟨b,off + j,none⟩ = some (.int .u32 (zs.getD j 0)))∧(∀ j,ys.getD j 0 = zs.getD (o + j) 0)∧s < 32∧S≤N):=⟨hwn,hnl,hyl,hwy,hc,hyz,hs32,lS⟩
  have HR:Hid (RB = decide (val zs % 2 ^ m≠0)∧(val zs % 2 ^ m≠0 ↔ X0 % 2 ^ s≠0∨val (zs.take o)≠0)∧LB = decide (X0 % 2 ^ s≠0)):=⟨hRB,hlm,hLB⟩
  have lS2:S≤8388608:=by omega
  have hoS:o < S:=by omega
  clear hx hwx lx lS hN h0 hz0 hz1 hpd hps hs32 ho hs hm9 hS co hv0 hcx hnl hg hvn hwn hzs hc wX hX0 hlm hlw hyl hwy hyz hys hRB hA1 hA2 hLB
  go_enter Tryz.func54,Tryz.ntmps54
  go_wp2_with fail
  refine h1.mono ?_;rintro e w' ⟨rfl,hw'⟩;obtain rfl:=hw'.symm
  clear h1
  rcases LB with _ | _
  · go_wp2
    clear t2 t3 e1 f4 f5 f7 i10 i11 t0 t1
    go_loop [8,9] (fun lb i=>∃ (k:Nat) (B:Bool),i = .int .i64 k∧k≤o∧lb = .bool B∧(B = true ↔ X0 % 2 ^ s≠0∨val (zs.take k)≠0)) (fun _ i=>o - (intOf i).toNat)
    case atStart=>exact ⟨0,false,rfl,Nat.zero_le _,(by first | rfl | (simp;omega)),by
      have h:=HR.out.2.2
      simp at h
      simp [val,h]⟩
    case round =>
      obtain ⟨k,B,rfl,hk,rfl,hB⟩:=hrel
      obtain ⟨hwz,hzl,hyl,hwy,hc,hyz,hs32,lS⟩:=HX2.out
      by_cases ck:k < o
      · have e1:=hc k (by omega)
        have wz:=hwz k
        have hts:=val_take_succ zs k
        obtain ⟨X,hX⟩:∃ X:Nat,zs.getD k 0 = (X:Int):=⟨(zs.getD k 0).toNat,by omega⟩
        rw [hX] at e1 hts
        rw [Int.toNat_natCast] at hts
        have hp:0 < 4294967296 ^ k:=Nat.pow_pos (by decide)
        have j0:(0:Int)≤(k:Int):=by omega
        have j1:(k:Int) < (o:Int):=by omega
        have j2:(k:Int) < (N:Int):=by omega
        cases B with
        | true =>
          have HB:Hid (X0 % 2 ^ s≠0∨val (zs.take (k + 1))≠0):=by
            show X0 % 2 ^ s≠0∨val (zs.take (k + 1))≠0
            rcases hB.1 rfl with q | q
            · exact Or.inl q
            · right;omega
          clear HX2 HR hwz hzl hyl hwy hc hyz hs32 lS hX hts hp wz hB
          go_wp2
          exact ⟨⟨k + 1,true,by go_num,by omega,rfl,⟨fun _=>HB.out,fun _=>rfl⟩⟩,by simp [intOf];omega⟩
        | false =>
          have hB2:¬ (X0 % 2 ^ s≠0∨val (zs.take k)≠0):=fun h=>by have:=hB.2 h;cases this
          by_cases cx:X = 0
          · have HB:Hid (¬ (X0 % 2 ^ s≠0∨val (zs.take (k + 1))≠0)):=by
              show ¬ (X0 % 2 ^ s≠0∨val (zs.take (k + 1))≠0)
              rw [hts,cx,Nat.zero_mul,Nat.add_zero];exact hB2
            have t4:((X:Int) != 0) = false:=by simp [cx]
            clear HX2 HR hwz hzl hyl hwy hc hyz hs32 lS hX hts hp wz hB hB2 cx
            go_wp2
            exact ⟨⟨k + 1,false,by go_num,by omega,rfl,⟨fun h=>(by cases h),fun h=>absurd h HB.out⟩⟩,by simp [intOf];omega⟩
          · have HB:Hid (X0 % 2 ^ s≠0∨val (zs.take (k + 1))≠0):=by
              show X0 % 2 ^ s≠0∨val (zs.take (k + 1))≠0
              right
              have:0 < X * 4294967296 ^ k:=Nat.mul_pos (by omega) hp
              omega
            have t4:((X:Int) != 0) = true:=by simp;omega
            clear HX2 HR hwz hzl hyl hwy hc hyz hs32 lS hX hts hp wz hB hB2 cx
            go_wp2
            exact ⟨⟨k + 1,true,by go_num,by omega,rfl,⟨fun _=>HB.out,fun _=>rfl⟩⟩,by simp [intOf];omega⟩
      · have hko:k = o:=by omega
        subst hko
        have hRB:RB = B:=by
          rw [HR.out.1]
          cases B with
          | true=>exact decide_eq_true (HR.out.2.1.2 (hB.1 rfl))
          | false=>exact decide_eq_false (fun h=>by have:=hB.2 (HR.out.2.1.1 h);cases this)
        subst hRB
        have j1:¬ ((k:Int) < (k:Int)):=by omega
        obtain ⟨i0,hi0,hi1,hi2,hi3⟩:=inf32p
        clear HR hB hwz hzl hyl hwy hc hyz hs32 lS hk ck
        go_wp2
        clear j1
        obtain ⟨o,ho⟩:∃ o,o = k:=⟨_,rfl⟩
        subst ho
        go_loopw [10,11] (fun a ii wr=>∃ (v:Value) (k:Nat) (Ls:List Int),v = a∧ii = .int .i64 ((o:Int) + (k:Int))∧o + k≤S∧Own wr w.heap.size v Ls∧Kp w wr∧Ls.length = k∧Wd Ls∧(∀ j,j < k→Ls.getD j 0 = ((val ys / 2 ^ s / 4294967296 ^ j % 4294967296:Nat):Int))) (fun _ i _=>S - (intOf i).toNat)
        case atStart=>exact ⟨_,0,[],rfl,by simp,by omega,Own.nil _ _,Kp.refl _,rfl,Wd.nil,fun j h=>by omega⟩
        case round =>
          obtain ⟨v,k,Ls,rfl,rfl,hk,hown,hkp,hll,hwl,hdg⟩:=hrel
          obtain ⟨hwz,hzl,hyl,hwy,hc,hyz,hs32,lS⟩:=HX2.out
          by_cases ck:o + k < S
          · have e1:=kkeep hkp (hc (o + k) (by omega))
            have w1:=hwz (o + k)
            have w2:=hwz (o + k + 1)
            obtain ⟨X,hgx⟩:∃ X:Nat,zs.getD (o + k) 0 = (X:Int):=⟨(zs.getD (o + k) 0).toNat,by omega⟩
            obtain ⟨Y,hgy1⟩:∃ Y:Nat,zs.getD (o + k + 1) 0 = (Y:Int):=⟨(zs.getD (o + k + 1) 0).toNat,by omega⟩
            have hX32:X < 4294967296:=by omega
            have hY32:Y < 4294967296:=by omega
            have hX:ys.getD k 0 = (X:Int):=by rw [hyz k];exact hgx
            have hYd:ys.getD (k + 1) 0 = (Y:Int):=by rw [hyz (k + 1)];exact hgy1
            have hrw:=right_word ys hwy k s X Y hs32 (by omega) hX hYd
            rw [hgx] at e1
            clear w1 w2
            by_cases cl:o + k + 1 < S
            · skip
              have f3:IntKind.u64.wrap (X:Int) = (X:Int):=by rw [IntKind.wrap_u64];omega
              have e2:=kkeep hkp (hc (o + k + 1) (by omega))
              rw [hgy1] at e2
              have f4:IntKind.u64.wrap (Y:Int) = (Y:Int):=by rw [IntKind.wrap_u64];omega
              have f5:IntKind.u64.wrap ((Y:Int) * 4294967296) = ((Y * 4294967296:Nat):Int):=by rw [IntKind.wrap_u64];omega
              have f6:=bits_or_u64_nat X (Y * 4294967296) (by omega) (by omega)
              have e3:X ||| Y * 4294967296 = X + Y * 4294967296:=or_low X Y 32 (by omega)
              rw [e3] at f6
              obtain ⟨YB,hYB⟩:∃ YB,YB = Y * 4294967296:=⟨_,rfl⟩
              rw [← hYB] at f5 f6 hrw
              obtain ⟨V,hV⟩:∃ V,V = X + YB:=⟨_,rfl⟩
              rw [← hV] at f6 hrw
              have hV64:V < 18446744073709551616:=by omega
              obtain ⟨Q,hQ⟩:∃ Q,Q = V / 2 ^ s:=⟨_,rfl⟩
              have f7:(V:Int) / 2 ^ s = (Q:Int):=by rw [hQ];push_cast;rfl
              have hQ64:Q < 18446744073709551616:=by rw [hQ];exact Nat.lt_of_le_of_lt (Nat.div_le_self _ _) hV64
              have f8:=and32 Q hQ64
              rw [← hQ] at hrw
              obtain ⟨Z,hZ⟩:∃ Z,Z = Q % 4294967296:=⟨_,rfl⟩
              rw [← hZ] at f8 hrw
              have f9:IntKind.u32.wrap (Z:Int) = (Z:Int):=by rw [IntKind.wrap_u32];omega
              have hWL:Wd (Ls ++ [(Z:Int)]):=hwl.append (Wd.one (by omega))
              have HD:Hid (∀ j,j < k + 1→(Ls ++ [(Z:Int)]).getD j 0 = ((val ys / 2 ^ s / 4294967296 ^ j % 4294967296:Nat):Int)):=fun j hj=>by
                by_cases e:j = k
                · subst e;rw [hrw];simp [List.getD,hll]
                · rw [← hdg j (by omega)];simp [List.getD,List.getElem?_append,show j < Ls.length from by omega]
              have hob:=own_block hown
              have hown':wr.ownsRow w.heap.size 72 1 v k (Ls.map (Value.int .u32)):=by rw [← hll];exact hown
              have hsz:=hkp.size
              have j0:(0:Int)≤(o:Int) + (k:Int):=by omega
              have j1:(o:Int) + (k:Int) < (N:Int):=by omega
              have j2:(o:Int) + (k:Int) < (S:Int):=by omega
              have j3:((o:Int) + (k:Int) + 1 < (S:Int)):=by omega
              have j4:(0:Int)≤(o:Int) + (k:Int) + 1:=by omega
              have j5:(o:Int) + (k:Int) + 1 < (N:Int):=by omega
              have hkb:k≤8388608:=by omega
              clear HX2 hwz hzl hyl hwy hc hX hYd hgx hyz hrw hdg hwl hown hQ hZ hV64 hQ64 hV hYB e3 hgy1
              go_wp2_with (first | (at_builtin;refine wpList_append_own _ rfl _ _ 25 rfl w.heap.size 72 i0 (.int .u32 0) 1 4 Tryz.underlying25 hi0 hi1 hi2 hi3 rfl (by decide) _ _ _ rfl (hown'.alloc _) ⟨wr.heap.size,0,none⟩ 1 1 [.int .u32 (Z:Int)] rfl rfl ?c1mf ?c2mf ?c3mf ?c4mf ?c5mf ?_))
              try case c1mf =>
                intro j' u hj'
                match j',hj' with
                | 0,hj'=>simp at hj';subst hj';simp [Addr.add]
              case c2mf=>first | rfl | (intro u hu;simp at hu;subst hu;rfl)
              case c3mf=>unfold maxLen;omega
              case c4mf=>omega
              case c5mf=>first | omega | (simp;omega)
              intro v' w1 hown2 hgrow _
              have hO:Own w1 w.heap.size v' (Ls ++ [(Z:Int)]):=by refine Own.push ?_;rw [hll];exact hown2
              have hK2:Kp w w1:=(hkp.alloc _).grown hgrow hob
              clear hown2 hgrow hown' hkp hob hsz
              go_wp2
              exact ⟨⟨v',k + 1,Ls ++ [(Z:Int)],rfl,by go_num,by omega,hO,hK2,by simp [hll],hWL,HD.out⟩,by simp [intOf];omega⟩
            · skip
              have f3:IntKind.u64.wrap (X:Int) = (X:Int):=by rw [IntKind.wrap_u64];omega
              have hY0:Y = 0:=by
                have h1:zs.getD (o + k + 1) 0 = 0:=by simp [List.getD,List.getElem?_eq_none (by omega:zs.length≤o + k + 1)]
                have h2:=hYd
                rw [hyz (k + 1)] at h2
                rw [show o + (k + 1) = o + k + 1 from by omega,h1] at h2
                omega
              rw [hY0,Nat.zero_mul,Nat.add_zero] at hrw
              obtain ⟨V,hV⟩:∃ V,V = X:=⟨_,rfl⟩
              rw [← hV] at hrw e1 f3
              have hV64:V < 18446744073709551616:=by omega
              obtain ⟨Q,hQ⟩:∃ Q,Q = V / 2 ^ s:=⟨_,rfl⟩
              have f7:(V:Int) / 2 ^ s = (Q:Int):=by rw [hQ];push_cast;rfl
              have hQ64:Q < 18446744073709551616:=by rw [hQ];exact Nat.lt_of_le_of_lt (Nat.div_le_self _ _) hV64
              have f8:=and32 Q hQ64
              rw [← hQ] at hrw
              obtain ⟨Z,hZ⟩:∃ Z,Z = Q % 4294967296:=⟨_,rfl⟩
              rw [← hZ] at f8 hrw
              have f9:IntKind.u32.wrap (Z:Int) = (Z:Int):=by rw [IntKind.wrap_u32];omega
              have hWL:Wd (Ls ++ [(Z:Int)]):=hwl.append (Wd.one (by omega))
              have HD:Hid (∀ j,j < k + 1→(Ls ++ [(Z:Int)]).getD j 0 = ((val ys / 2 ^ s / 4294967296 ^ j % 4294967296:Nat):Int)):=fun j hj=>by
                by_cases e:j = k
                · subst e;rw [hrw];simp [List.getD,hll]
                · rw [← hdg j (by omega)];simp [List.getD,List.getElem?_append,show j < Ls.length from by omega]
              have hob:=own_block hown
              have hown':wr.ownsRow w.heap.size 72 1 v k (Ls.map (Value.int .u32)):=by rw [← hll];exact hown
              have hsz:=hkp.size
              have j0:(0:Int)≤(o:Int) + (k:Int):=by omega
              have j1:(o:Int) + (k:Int) < (N:Int):=by omega
              have j2:(o:Int) + (k:Int) < (S:Int):=by omega
              have j3:¬ ((o:Int) + (k:Int) + 1 < (S:Int)):=by omega
              have j4:(0:Int)≤(o:Int) + (k:Int) + 1:=by omega
              have j5:True∨(o:Int) + (k:Int) + 1 < (N:Int):=by exact Or.inl trivial
              have hkb:k≤8388608:=by omega
              clear HX2 hwz hzl hyl hwy hc hX hYd hgx hyz hrw hdg hwl hown hQ hZ hV64 hQ64 hV hY0
              go_wp2_with (first | (at_builtin;refine wpList_append_own _ rfl _ _ 25 rfl w.heap.size 72 i0 (.int .u32 0) 1 4 Tryz.underlying25 hi0 hi1 hi2 hi3 rfl (by decide) _ _ _ rfl (hown'.alloc _) ⟨wr.heap.size,0,none⟩ 1 1 [.int .u32 (Z:Int)] rfl rfl ?c1lf ?c2lf ?c3lf ?c4lf ?c5lf ?_))
              try case c1lf =>
                intro j' u hj'
                match j',hj' with
                | 0,hj'=>simp at hj';subst hj';simp [Addr.add]
              case c2lf=>first | rfl | (intro u hu;simp at hu;subst hu;rfl)
              case c3lf=>unfold maxLen;omega
              case c4lf=>omega
              case c5lf=>first | omega | (simp;omega)
              intro v' w1 hown2 hgrow _
              have hO:Own w1 w.heap.size v' (Ls ++ [(Z:Int)]):=by refine Own.push ?_;rw [hll];exact hown2
              have hK2:Kp w w1:=(hkp.alloc _).grown hgrow hob
              clear hown2 hgrow hown' hkp hob hsz
              go_wp2
              exact ⟨⟨v',k + 1,Ls ++ [(Z:Int)],rfl,by go_num,by omega,hO,hK2,by simp [hll],hWL,HD.out⟩,by simp [intOf];omega⟩
          · have hok:o + k = S:=by omega
            have hal:=low_all Ls ys hwy s (by omega) (fun j hj=>hdg j (by omega))
            obtain ⟨p',c',rfl,hA,_⟩:=hown.arr
            have hno:=rnorm_ p' c' Ls wr hA (by omega)
            rw [nz_dig Ls hwl,hal] at hno
            obtain ⟨D,hD⟩:∃ D,D = Ls.length:=⟨_,rfl⟩
            rw [← hD] at hno ⊢
            have hsz:=hkp.size
            have j2:¬ ((o:Int) + (k:Int) < (S:Int)):=by omega
            have hkb:k≤8388608:=by omega
            clear HX2 hwz hzl hyl hwy hc hyz hs32 lS hown hll hwl hdg hal hA hD hok ck hk
            go_wp2_with fail
            refine hno.mono ?_
            rintro e w2 ⟨v2,rfl,hO2,hk2⟩
            clear hno
            go_wp2
            exact bodyPost_ret (v:=.tuple #[v2,.bool RB]) (by simp [results,Tryz.results54,go_sem] <;> simp only [*]) rfl ⟨v2,rfl,hO2.mono hsz,hkp.trans hk2⟩
  · have t4:=t3 rfl
    have t5:0 < s:=by omega
    go_wp2
    clear t2 t3 t4 e1 f4 f5 f7 i10 i11 t0 t1
    go_loop [8,9] (fun lb i=>∃ (k:Nat) (B:Bool),i = .int .i64 k∧k≤o∧lb = .bool B∧(B = true ↔ X0 % 2 ^ s≠0∨val (zs.take k)≠0)) (fun _ i=>o - (intOf i).toNat)
    case atStart=>exact ⟨0,true,rfl,Nat.zero_le _,(by first | rfl | (simp;omega)),by
      have h:=HR.out.2.2
      simp at h
      simp [val,h]⟩
    case round =>
      obtain ⟨k,B,rfl,hk,rfl,hB⟩:=hrel
      obtain ⟨hwz,hzl,hyl,hwy,hc,hyz,hs32,lS⟩:=HX2.out
      by_cases ck:k < o
      · have e1:=hc k (by omega)
        have wz:=hwz k
        have hts:=val_take_succ zs k
        obtain ⟨X,hX⟩:∃ X:Nat,zs.getD k 0 = (X:Int):=⟨(zs.getD k 0).toNat,by omega⟩
        rw [hX] at e1 hts
        rw [Int.toNat_natCast] at hts
        have hp:0 < 4294967296 ^ k:=Nat.pow_pos (by decide)
        have j0:(0:Int)≤(k:Int):=by omega
        have j1:(k:Int) < (o:Int):=by omega
        have j2:(k:Int) < (N:Int):=by omega
        cases B with
        | true =>
          have HB:Hid (X0 % 2 ^ s≠0∨val (zs.take (k + 1))≠0):=by
            show X0 % 2 ^ s≠0∨val (zs.take (k + 1))≠0
            rcases hB.1 rfl with q | q
            · exact Or.inl q
            · right;omega
          clear HX2 HR hwz hzl hyl hwy hc hyz hs32 lS hX hts hp wz hB
          go_wp2
          exact ⟨⟨k + 1,true,by go_num,by omega,rfl,⟨fun _=>HB.out,fun _=>rfl⟩⟩,by simp [intOf];omega⟩
        | false =>
          have hB2:¬ (X0 % 2 ^ s≠0∨val (zs.take k)≠0):=fun h=>by have:=hB.2 h;cases this
          by_cases cx:X = 0
          · have HB:Hid (¬ (X0 % 2 ^ s≠0∨val (zs.take (k + 1))≠0)):=by
              show ¬ (X0 % 2 ^ s≠0∨val (zs.take (k + 1))≠0)
              rw [hts,cx,Nat.zero_mul,Nat.add_zero];exact hB2
            have t4:((X:Int) != 0) = false:=by simp [cx]
            clear HX2 HR hwz hzl hyl hwy hc hyz hs32 lS hX hts hp wz hB hB2 cx
            go_wp2
            exact ⟨⟨k + 1,false,by go_num,by omega,rfl,⟨fun h=>(by cases h),fun h=>absurd h HB.out⟩⟩,by simp [intOf];omega⟩
          · have HB:Hid (X0 % 2 ^ s≠0∨val (zs.take (k + 1))≠0):=by
              show X0 % 2 ^ s≠0∨val (zs.take (k + 1))≠0
              right
              have:0 < X * 4294967296 ^ k:=Nat.mul_pos (by omega) hp
              omega
            have t4:((X:Int) != 0) = true:=by simp;omega
            clear HX2 HR hwz hzl hyl hwy hc hyz hs32 lS hX hts hp wz hB hB2 cx
            go_wp2
            exact ⟨⟨k + 1,true,by go_num,by omega,rfl,⟨fun _=>HB.out,fun _=>rfl⟩⟩,by simp [intOf];omega⟩
      · have hko:k = o:=by omega
        subst hko
        have hRB:RB = B:=by
          rw [HR.out.1]
          cases B with
          | true=>exact decide_eq_true (HR.out.2.1.2 (hB.1 rfl))
          | false=>exact decide_eq_false (fun h=>by have:=hB.2 (HR.out.2.1.1 h);cases this)
        subst hRB
        have j1:¬ ((k:Int) < (k:Int)):=by omega
        obtain ⟨i0,hi0,hi1,hi2,hi3⟩:=inf32p
        clear HR hB hwz hzl hyl hwy hc hyz hs32 lS hk ck
        go_wp2
        clear j1
        obtain ⟨o,ho⟩:∃ o,o = k:=⟨_,rfl⟩
        subst ho
        go_loopw [10,11] (fun a ii wr=>∃ (v:Value) (k:Nat) (Ls:List Int),v = a∧ii = .int .i64 ((o:Int) + (k:Int))∧o + k≤S∧Own wr w.heap.size v Ls∧Kp w wr∧Ls.length = k∧Wd Ls∧(∀ j,j < k→Ls.getD j 0 = ((val ys / 2 ^ s / 4294967296 ^ j % 4294967296:Nat):Int))) (fun _ i _=>S - (intOf i).toNat)
        case atStart=>exact ⟨_,0,[],rfl,by simp,by omega,Own.nil _ _,Kp.refl _,rfl,Wd.nil,fun j h=>by omega⟩
        case round =>
          obtain ⟨v,k,Ls,rfl,rfl,hk,hown,hkp,hll,hwl,hdg⟩:=hrel
          obtain ⟨hwz,hzl,hyl,hwy,hc,hyz,hs32,lS⟩:=HX2.out
          by_cases ck:o + k < S
          · have e1:=kkeep hkp (hc (o + k) (by omega))
            have w1:=hwz (o + k)
            have w2:=hwz (o + k + 1)
            obtain ⟨X,hgx⟩:∃ X:Nat,zs.getD (o + k) 0 = (X:Int):=⟨(zs.getD (o + k) 0).toNat,by omega⟩
            obtain ⟨Y,hgy1⟩:∃ Y:Nat,zs.getD (o + k + 1) 0 = (Y:Int):=⟨(zs.getD (o + k + 1) 0).toNat,by omega⟩
            have hX32:X < 4294967296:=by omega
            have hY32:Y < 4294967296:=by omega
            have hX:ys.getD k 0 = (X:Int):=by rw [hyz k];exact hgx
            have hYd:ys.getD (k + 1) 0 = (Y:Int):=by rw [hyz (k + 1)];exact hgy1
            have hrw:=right_word ys hwy k s X Y hs32 (by omega) hX hYd
            rw [hgx] at e1
            clear w1 w2
            by_cases cl:o + k + 1 < S
            · skip
              have f3:IntKind.u64.wrap (X:Int) = (X:Int):=by rw [IntKind.wrap_u64];omega
              have e2:=kkeep hkp (hc (o + k + 1) (by omega))
              rw [hgy1] at e2
              have f4:IntKind.u64.wrap (Y:Int) = (Y:Int):=by rw [IntKind.wrap_u64];omega
              have f5:IntKind.u64.wrap ((Y:Int) * 4294967296) = ((Y * 4294967296:Nat):Int):=by rw [IntKind.wrap_u64];omega
              have f6:=bits_or_u64_nat X (Y * 4294967296) (by omega) (by omega)
              have e3:X ||| Y * 4294967296 = X + Y * 4294967296:=or_low X Y 32 (by omega)
              rw [e3] at f6
              obtain ⟨YB,hYB⟩:∃ YB,YB = Y * 4294967296:=⟨_,rfl⟩
              rw [← hYB] at f5 f6 hrw
              obtain ⟨V,hV⟩:∃ V,V = X + YB:=⟨_,rfl⟩
              rw [← hV] at f6 hrw
              have hV64:V < 18446744073709551616:=by omega
              obtain ⟨Q,hQ⟩:∃ Q,Q = V / 2 ^ s:=⟨_,rfl⟩
              have f7:(V:Int) / 2 ^ s = (Q:Int):=by rw [hQ];push_cast;rfl
              have hQ64:Q < 18446744073709551616:=by rw [hQ];exact Nat.lt_of_le_of_lt (Nat.div_le_self _ _) hV64
              have f8:=and32 Q hQ64
              rw [← hQ] at hrw
              obtain ⟨Z,hZ⟩:∃ Z,Z = Q % 4294967296:=⟨_,rfl⟩
              rw [← hZ] at f8 hrw
              have f9:IntKind.u32.wrap (Z:Int) = (Z:Int):=by rw [IntKind.wrap_u32];omega
              have hWL:Wd (Ls ++ [(Z:Int)]):=hwl.append (Wd.one (by omega))
              have HD:Hid (∀ j,j < k + 1→(Ls ++ [(Z:Int)]).getD j 0 = ((val ys / 2 ^ s / 4294967296 ^ j % 4294967296:Nat):Int)):=fun j hj=>by
                by_cases e:j = k
                · subst e;rw [hrw];simp [List.getD,hll]
                · rw [← hdg j (by omega)];simp [List.getD,List.getElem?_append,show j < Ls.length from by omega]
              have hob:=own_block hown
              have hown':wr.ownsRow w.heap.size 72 1 v k (Ls.map (Value.int .u32)):=by rw [← hll];exact hown
              have hsz:=hkp.size
              have j0:(0:Int)≤(o:Int) + (k:Int):=by omega
              have j1:(o:Int) + (k:Int) < (N:Int):=by omega
              have j2:(o:Int) + (k:Int) < (S:Int):=by omega
              have j3:((o:Int) + (k:Int) + 1 < (S:Int)):=by omega
              have j4:(0:Int)≤(o:Int) + (k:Int) + 1:=by omega
              have j5:(o:Int) + (k:Int) + 1 < (N:Int):=by omega
              have hkb:k≤8388608:=by omega
              clear HX2 hwz hzl hyl hwy hc hX hYd hgx hyz hrw hdg hwl hown hQ hZ hV64 hQ64 hV hYB e3 hgy1
              go_wp2_with (first | (at_builtin;refine wpList_append_own _ rfl _ _ 25 rfl w.heap.size 72 i0 (.int .u32 0) 1 4 Tryz.underlying25 hi0 hi1 hi2 hi3 rfl (by decide) _ _ _ rfl (hown'.alloc _) ⟨wr.heap.size,0,none⟩ 1 1 [.int .u32 (Z:Int)] rfl rfl ?c1mt ?c2mt ?c3mt ?c4mt ?c5mt ?_))
              try case c1mt =>
                intro j' u hj'
                match j',hj' with
                | 0,hj'=>simp at hj';subst hj';simp [Addr.add]
              case c2mt=>first | rfl | (intro u hu;simp at hu;subst hu;rfl)
              case c3mt=>unfold maxLen;omega
              case c4mt=>omega
              case c5mt=>first | omega | (simp;omega)
              intro v' w1 hown2 hgrow _
              have hO:Own w1 w.heap.size v' (Ls ++ [(Z:Int)]):=by refine Own.push ?_;rw [hll];exact hown2
              have hK2:Kp w w1:=(hkp.alloc _).grown hgrow hob
              clear hown2 hgrow hown' hkp hob hsz
              go_wp2
              exact ⟨⟨v',k + 1,Ls ++ [(Z:Int)],rfl,by go_num,by omega,hO,hK2,by simp [hll],hWL,HD.out⟩,by simp [intOf];omega⟩
            · skip
              have f3:IntKind.u64.wrap (X:Int) = (X:Int):=by rw [IntKind.wrap_u64];omega
              have hY0:Y = 0:=by
                have h1:zs.getD (o + k + 1) 0 = 0:=by simp [List.getD,List.getElem?_eq_none (by omega:zs.length≤o + k + 1)]
                have h2:=hYd
                rw [hyz (k + 1)] at h2
                rw [show o + (k + 1) = o + k + 1 from by omega,h1] at h2
                omega
              rw [hY0,Nat.zero_mul,Nat.add_zero] at hrw
              obtain ⟨V,hV⟩:∃ V,V = X:=⟨_,rfl⟩
              rw [← hV] at hrw e1 f3
              have hV64:V < 18446744073709551616:=by omega
              obtain ⟨Q,hQ⟩:∃ Q,Q = V / 2 ^ s:=⟨_,rfl⟩
              have f7:(V:Int) / 2 ^ s = (Q:Int):=by rw [hQ];push_cast;rfl
              have hQ64:Q < 18446744073709551616:=by rw [hQ];exact Nat.lt_of_le_of_lt (Nat.div_le_self _ _) hV64
              have f8:=and32 Q hQ64
              rw [← hQ] at hrw
              obtain ⟨Z,hZ⟩:∃ Z,Z = Q % 4294967296:=⟨_,rfl⟩
              rw [← hZ] at f8 hrw
              have f9:IntKind.u32.wrap (Z:Int) = (Z:Int):=by rw [IntKind.wrap_u32];omega
              have hWL:Wd (Ls ++ [(Z:Int)]):=hwl.append (Wd.one (by omega))
              have HD:Hid (∀ j,j < k + 1→(Ls ++ [(Z:Int)]).getD j 0 = ((val ys / 2 ^ s / 4294967296 ^ j % 4294967296:Nat):Int)):=fun j hj=>by
                by_cases e:j = k
                · subst e;rw [hrw];simp [List.getD,hll]
                · rw [← hdg j (by omega)];simp [List.getD,List.getElem?_append,show j < Ls.length from by omega]
              have hob:=own_block hown
              have hown':wr.ownsRow w.heap.size 72 1 v k (Ls.map (Value.int .u32)):=by rw [← hll];exact hown
              have hsz:=hkp.size
              have j0:(0:Int)≤(o:Int) + (k:Int):=by omega
              have j1:(o:Int) + (k:Int) < (N:Int):=by omega
              have j2:(o:Int) + (k:Int) < (S:Int):=by omega
              have j3:¬ ((o:Int) + (k:Int) + 1 < (S:Int)):=by omega
              have j4:(0:Int)≤(o:Int) + (k:Int) + 1:=by omega
              have j5:True∨(o:Int) + (k:Int) + 1 < (N:Int):=by exact Or.inl trivial
              have hkb:k≤8388608:=by omega
              clear HX2 hwz hzl hyl hwy hc hX hYd hgx hyz hrw hdg hwl hown hQ hZ hV64 hQ64 hV hY0
              go_wp2_with (first | (at_builtin;refine wpList_append_own _ rfl _ _ 25 rfl w.heap.size 72 i0 (.int .u32 0) 1 4 Tryz.underlying25 hi0 hi1 hi2 hi3 rfl (by decide) _ _ _ rfl (hown'.alloc _) ⟨wr.heap.size,0,none⟩ 1 1 [.int .u32 (Z:Int)] rfl rfl ?c1lt ?c2lt ?c3lt ?c4lt ?c5lt ?_))
              try case c1lt =>
                intro j' u hj'
                match j',hj' with
                | 0,hj'=>simp at hj';subst hj';simp [Addr.add]
              case c2lt=>first | rfl | (intro u hu;simp at hu;subst hu;rfl)
              case c3lt=>unfold maxLen;omega
              case c4lt=>omega
              case c5lt=>first | omega | (simp;omega)
              intro v' w1 hown2 hgrow _
              have hO:Own w1 w.heap.size v' (Ls ++ [(Z:Int)]):=by refine Own.push ?_;rw [hll];exact hown2
              have hK2:Kp w w1:=(hkp.alloc _).grown hgrow hob
              clear hown2 hgrow hown' hkp hob hsz
              go_wp2
              exact ⟨⟨v',k + 1,Ls ++ [(Z:Int)],rfl,by go_num,by omega,hO,hK2,by simp [hll],hWL,HD.out⟩,by simp [intOf];omega⟩
          · have hok:o + k = S:=by omega
            have hal:=low_all Ls ys hwy s (by omega) (fun j hj=>hdg j (by omega))
            obtain ⟨p',c',rfl,hA,_⟩:=hown.arr
            have hno:=rnorm_ p' c' Ls wr hA (by omega)
            rw [nz_dig Ls hwl,hal] at hno
            obtain ⟨D,hD⟩:∃ D,D = Ls.length:=⟨_,rfl⟩
            rw [← hD] at hno ⊢
            have hsz:=hkp.size
            have j2:¬ ((o:Int) + (k:Int) < (S:Int)):=by omega
            have hkb:k≤8388608:=by omega
            clear HX2 hwz hzl hyl hwy hc hyz hs32 lS hown hll hwl hdg hal hA hD hok ck hk
            go_wp2_with fail
            refine hno.mono ?_
            rintro e w2 ⟨v2,rfl,hO2,hk2⟩
            clear hno
            go_wp2
            exact bodyPost_ret (v:=.tuple #[v2,.bool RB]) (by simp [results,Tryz.results54,go_sem] <;> simp only [*]) rfl ⟨v2,rfl,hO2.mono hsz,hkp.trans hk2⟩
end Go.Proofs.YtnileplkkmhdgaaGreatDoor
