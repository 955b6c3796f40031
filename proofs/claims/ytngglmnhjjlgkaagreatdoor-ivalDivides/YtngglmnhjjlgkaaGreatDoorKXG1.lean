import Derived.Test.YtngglmnhjjlgkaaGreatDoorKW4
import Derived.Test.YtngglmnhjjlgkaaGreatDoorKXQJ
set_option maxHeartbeats 1000000
set_option maxRecDepth 20000
namespace Go.Proofs.YtngglmnhjjlgkaaGreatDoor
open Go.RowKit
theorem w64x (z:Int) (h0:-1099511627776≤z) (h1:z≤1099511627776):wrap64 z = z:=by unfold wrap64;omega
theorem made_ (neg:Bool) (sig:Nat) (e:Int) (w:World) (hs:sig≤9007199254740992) (he:-1074≤e) (he2:e < 5000) (hb:blen (sig * 2 ^ (e + 1074).toNat)≤2098) :
  Calls Tryz.prog 100 #[.bool neg,.int .u64 (sig:Int),.int .i64 e] w fun r w'=>r = .returned (.int .u64 ((mdW neg (rgU 53 (sig * 2 ^ (e + 1074).toNat)):Nat):Int))∧w' = w:=by
 by_cases c0:sig = 0
 ·subst c0
  rw [Nat.zero_mul,rgU_zero]
  clear hb
  go_enter Tryz.func100,Tryz.ntmps100
  go_wp2
  exact bodyPost_ret (v:=.int .u64 0) (by simp [results,Tryz.results100,go_sem]) rfl ⟨rfl,rfl⟩
 ·have t0:¬ ((sig:Int) = 0):=by omega
  obtain ⟨U,hU⟩:∃ U,U = sig * 2 ^ (e + 1074).toNat:=⟨_,rfl⟩
  rw [← hU] at hb ⊢
  have HB:Hid (blen U≤2098):=hb
  have j0:MdI U sig e:=⟨c0,hs,he,by omega,hU.symm⟩
  clear hb hU c0 hs he
  go_enter Tryz.func100,Tryz.ntmps100
  go_wp2
  go_loop [1,2] (fun a b=>∃ (s:Nat) (x:Int),a = .int .u64 (s:Int)∧b = .int .i64 x∧MdI U s x∧(x < 5000∨s < 9007199254740992)) (fun a _=>(intOf a).toNat)
  case atStart=>exact ⟨_,_,rfl,rfl,j0,Or.inl he2⟩
  case round =>
   clear j0 t0 he2
   obtain ⟨s,x,rfl,rfl,j1,hx⟩:=hrel
   obtain ⟨a1,a2,a3,a4,a5⟩:=id j1
   by_cases k1:9007199254740992≤s
   ·have t1:9007199254740992≤(s:Int):=by omega
    obtain ⟨q,q2⟩:=j1.half (by omega) k1
    have f4:s / 2 < s:=by omega
    obtain ⟨h,hh⟩:∃ h,h = s / 2:=⟨_,rfl⟩
    rw [← hh] at q q2 f4
    have f2:(s:Int) / 2 = (h:Int):=by omega
    have f3:wrap64 (x + 1) = x + 1:=w64x _ (by omega) (by omega)
    have Q:Hid ((MdI U h (x + 1)∧h < 9007199254740992)∧h < s):=⟨⟨q,q2⟩,f4⟩
    clear a1 a2 a3 a4 a5 j1 hx q q2 k1 f4 hh
    go_wp2
    exact ⟨⟨h,x + 1,rfl,by rw [f3],Q.out.1.1,Or.inr Q.out.1.2⟩,by simp only [intOf,Int.toNat_natCast];exact Q.out.2⟩
   ·have j2:s < 9007199254740992:=by omega
    have t1:¬ (9007199254740992≤(s:Int)):=by omega
    have t2:¬ (x < -1074):=by omega
    have f1:bits BinOp.and IntKind.u64 (s:Int) 1 = ((s % 2:Nat):Int):=by
     have:=u64_and_nat s 1 (by omega) (by omega)
     rw [Nat.and_one_is_mod] at this
     exact this
    clear a1 a2 a3 a4 a5 hx k1
    rcases (by omega:s % 2 = 0∨s % 2 = 1) with cp | cp
    ·rw [cp] at f1
     have HJ:Hid (MdI U s x∧s < 9007199254740992):=⟨j1,j2⟩
     clear cp j1 j2
     go_wp2
     obtain ⟨j1,j2⟩:=HJ.out
     clear f1 t1 t2 HJ
     go_loop [1,2] (fun a b=>∃ (s:Nat) (x:Int),a = .int .u64 (s:Int)∧b = .int .i64 x∧MdI U s x∧s < 9007199254740992) (fun _ b=>(intOf b + 1074).toNat)
     case atStart=>exact ⟨_,_,rfl,rfl,j1,j2⟩
     case round =>
      clear j1 j2
      obtain ⟨s,x,rfl,rfl,hj,hs⟩:=hrel
      obtain ⟨a1,a2,a3,a4,a5⟩:=id hj
      by_cases k1:s < 4503599627370496
      ·have t1:(s:Int) < 4503599627370496:=by omega
       by_cases k2:-1074 < x
       ·have q:=hj.dbl k1 k2
        have q2:2 * s < 9007199254740992:=by omega
        have f2:IntKind.u64.wrap ((s:Int) * 2) = ((2 * s:Nat):Int):=by rw [IntKind.wrap_u64];omega
        have f3:wrap64 (x - 1) = x - 1:=w64x _ (by omega) (by omega)
        have f4:(x - 1 + 1074).toNat < (x + 1074).toNat:=by omega
        have Q:Hid (MdI U (2 * s) (x - 1)∧2 * s < 9007199254740992):=⟨q,q2⟩
        clear a1 a2 a3 a4 a5 hj hs q q2 k1
        go_wp2
        exact ⟨⟨2 * s,x - 1,by first | rw [f2] | exact congrArg _ (by omega),by rw [f3],Q.out.1,Q.out.2⟩,by simp only [intOf,f3];exact f4⟩
       ·obtain ⟨r1,r2⟩:=hj.low k1 (by omega)
        have HM:Hid (rgU 53 U = s):=r1
        have HM0:Hid (s≠0):=a1
        have hor:((s:Nat):Nat) ||| 9223372036854775808 = 9223372036854775808 + s:=by
         have:=or_low s 1 63 (by rw [show (2:Nat) ^ 63 = 9223372036854775808 from by decide];omega)
         rw [show 1 * 2 ^ 63 = 9223372036854775808 from by decide] at this
         omega
        obtain ⟨m,hm⟩:∃ m,m = s:=⟨_,rfl⟩
        subst hm
        obtain ⟨Z,hZ⟩:∃ Z,Z = 9223372036854775808 + m:=⟨_,rfl⟩
        have fo:bits BinOp.or IntKind.u64 (m:Int) 9223372036854775808 = (Z:Int):=by
         have:=u64_or_nat m 9223372036854775808 (by omega) (by decide)
         rw [hor,← hZ] at this
         exact this
        have HZ:Hid (mdW true m = Z):=by show _ = _;rw [hZ];unfold mdW;rw [if_neg HM0.out,if_pos rfl]
        have HN:Hid (mdW false m = m):=by show _ = _;unfold mdW;rw [if_neg HM0.out];rfl
        clear hZ
        have t1b:¬ (4503599627370496≤(m:Int)):=by omega
        clear a1 a2 a3 a4 a5 hj hs k1 r1 r2 hor
        by_cases cn:neg = true
        ·subst cn
         go_wp2
         exact bodyPost_ret (v:=.int .u64 (Z:Int)) (by simp [results,Tryz.results100,go_sem]) rfl ⟨by rw [HM.out,HZ.out],rfl⟩
        ·have cn2:neg = false:=by simpa using cn
         subst cn2
         clear cn
         go_wp2
         exact bodyPost_ret (v:=.int .u64 (m:Int)) (by simp [results,Tryz.results100,go_sem]) rfl ⟨by rw [HM.out,HN.out],rfl⟩
      ·have t1:¬ ((s:Int) < 4503599627370496):=by omega
       have t1b:4503599627370496≤(s:Int):=by omega
       obtain ⟨r0,r1,r2,r3⟩:=hj.top (by omega) hs HB.out
       obtain ⟨m,hm⟩:∃ m,m = rgU 53 U:=⟨_,rfl⟩
       rw [← hm] at r1 r2 r3
       have HM:Hid (rgU 53 U = m):=hm.symm
       have HM0:Hid (m≠0):=r3
       have hor:m ||| 9223372036854775808 = 9223372036854775808 + m:=by
        have:=or_low m 1 63 (by rw [show (2:Nat) ^ 63 = 9223372036854775808 from by decide];omega)
        rw [show 1 * 2 ^ 63 = 9223372036854775808 from by decide] at this
        omega
       obtain ⟨Z,hZ⟩:∃ Z,Z = 9223372036854775808 + m:=⟨_,rfl⟩
       have fo:bits BinOp.or IntKind.u64 (m:Int) 9223372036854775808 = (Z:Int):=by
        have:=u64_or_nat m 9223372036854775808 (by omega) (by decide)
        rw [hor,← hZ] at this
        exact this
       have HZ:Hid (mdW true m = Z):=by show _ = _;rw [hZ];unfold mdW;rw [if_neg HM0.out,if_pos rfl]
       have HN:Hid (mdW false m = m):=by show _ = _;unfold mdW;rw [if_neg HM0.out];rfl
       clear hZ
       obtain ⟨y,hy⟩:∃ y:Nat,(y:Int) = x + 1075:=⟨(x + 1075).toNat,by omega⟩
       obtain ⟨z,hz⟩:∃ z:Nat,z = s - 4503599627370496:=⟨_,rfl⟩
       obtain ⟨y2,hy2⟩:∃ y2:Nat,y2 = y * 4503599627370496:=⟨_,rfl⟩
       rw [show (x + 1075).toNat = y from by omega,← hz,← hy2] at r1
       have f2:IntKind.u64.wrap ((s:Int) - 4503599627370496) = (z:Int):=by rw [IntKind.wrap_u64];omega
       have f3:wrap64 (x + 1075) = (y:Int):=by rw [← hy];exact w64x _ (by omega) (by omega)
       have f4:IntKind.u64.wrap (y:Int) = (y:Int):=by rw [IntKind.wrap_u64];omega
       have f5:IntKind.u64.wrap ((y:Int) * 4503599627370496) = (y2:Int):=by rw [IntKind.wrap_u64];omega
       have f6:IntKind.u64.wrap ((z:Int) + (y2:Int)) = (m:Int):=by rw [IntKind.wrap_u64];omega
       clear a1 a2 a3 a4 a5 hj hs k1 r0 r1 r2 r3 hor hm hy hz hy2
       by_cases cn:neg = true
       ·subst cn
        go_wp2
        exact bodyPost_ret (v:=.int .u64 (Z:Int)) (by simp [results,Tryz.results100,go_sem]) rfl ⟨by rw [HM.out,HZ.out],rfl⟩
       ·have cn2:neg = false:=by simpa using cn
        subst cn2
        clear cn
        go_wp2
        exact bodyPost_ret (v:=.int .u64 (m:Int)) (by simp [results,Tryz.results100,go_sem]) rfl ⟨by rw [HM.out,HN.out],rfl⟩
    ·rw [cp] at f1
     have HJ:Hid (MdI U s x∧s < 9007199254740992):=⟨j1,j2⟩
     clear cp j1 j2
     go_wp2
     obtain ⟨j1,j2⟩:=HJ.out
     clear f1 t1 t2 HJ
     go_loop [1,2] (fun a b=>∃ (s:Nat) (x:Int),a = .int .u64 (s:Int)∧b = .int .i64 x∧MdI U s x∧s < 9007199254740992) (fun _ b=>(intOf b + 1074).toNat)
     case atStart=>exact ⟨_,_,rfl,rfl,j1,j2⟩
     case round =>
      clear j1 j2
      obtain ⟨s,x,rfl,rfl,hj,hs⟩:=hrel
      obtain ⟨a1,a2,a3,a4,a5⟩:=id hj
      by_cases k1:s < 4503599627370496
      ·have t1:(s:Int) < 4503599627370496:=by omega
       by_cases k2:-1074 < x
       ·have q:=hj.dbl k1 k2
        have q2:2 * s < 9007199254740992:=by omega
        have f2:IntKind.u64.wrap ((s:Int) * 2) = ((2 * s:Nat):Int):=by rw [IntKind.wrap_u64];omega
        have f3:wrap64 (x - 1) = x - 1:=w64x _ (by omega) (by omega)
        have f4:(x - 1 + 1074).toNat < (x + 1074).toNat:=by omega
        have Q:Hid (MdI U (2 * s) (x - 1)∧2 * s < 9007199254740992):=⟨q,q2⟩
        clear a1 a2 a3 a4 a5 hj hs q q2 k1
        go_wp2
        exact ⟨⟨2 * s,x - 1,by first | rw [f2] | exact congrArg _ (by omega),by rw [f3],Q.out.1,Q.out.2⟩,by simp only [intOf,f3];exact f4⟩
       ·obtain ⟨r1,r2⟩:=hj.low k1 (by omega)
        have HM:Hid (rgU 53 U = s):=r1
        have HM0:Hid (s≠0):=a1
        have hor:((s:Nat):Nat) ||| 9223372036854775808 = 9223372036854775808 + s:=by
         have:=or_low s 1 63 (by rw [show (2:Nat) ^ 63 = 9223372036854775808 from by decide];omega)
         rw [show 1 * 2 ^ 63 = 9223372036854775808 from by decide] at this
         omega
        obtain ⟨m,hm⟩:∃ m,m = s:=⟨_,rfl⟩
        subst hm
        obtain ⟨Z,hZ⟩:∃ Z,Z = 9223372036854775808 + m:=⟨_,rfl⟩
        have fo:bits BinOp.or IntKind.u64 (m:Int) 9223372036854775808 = (Z:Int):=by
         have:=u64_or_nat m 9223372036854775808 (by omega) (by decide)
         rw [hor,← hZ] at this
         exact this
        have HZ:Hid (mdW true m = Z):=by show _ = _;rw [hZ];unfold mdW;rw [if_neg HM0.out,if_pos rfl]
        have HN:Hid (mdW false m = m):=by show _ = _;unfold mdW;rw [if_neg HM0.out];rfl
        clear hZ
        have t1b:¬ (4503599627370496≤(m:Int)):=by omega
        clear a1 a2 a3 a4 a5 hj hs k1 r1 r2 hor
        by_cases cn:neg = true
        ·subst cn
         go_wp2
         exact bodyPost_ret (v:=.int .u64 (Z:Int)) (by simp [results,Tryz.results100,go_sem]) rfl ⟨by rw [HM.out,HZ.out],rfl⟩
        ·have cn2:neg = false:=by simpa using cn
         subst cn2
         clear cn
         go_wp2
         exact bodyPost_ret (v:=.int .u64 (m:Int)) (by simp [results,Tryz.results100,go_sem]) rfl ⟨by rw [HM.out,HN.out],rfl⟩
      ·have t1:¬ ((s:Int) < 4503599627370496):=by omega
       have t1b:4503599627370496≤(s:Int):=by omega
       obtain ⟨r0,r1,r2,r3⟩:=hj.top (by omega) hs HB.out
       obtain ⟨m,hm⟩:∃ m,m = rgU 53 U:=⟨_,rfl⟩
       rw [← hm] at r1 r2 r3
       have HM:Hid (rgU 53 U = m):=hm.symm
       have HM0:Hid (m≠0):=r3
       have hor:m ||| 9223372036854775808 = 9223372036854775808 + m:=by
        have:=or_low m 1 63 (by rw [show (2:Nat) ^ 63 = 9223372036854775808 from by decide];omega)
        rw [show 1 * 2 ^ 63 = 9223372036854775808 from by decide] at this
        omega
       obtain ⟨Z,hZ⟩:∃ Z,Z = 9223372036854775808 + m:=⟨_,rfl⟩
       have fo:bits BinOp.or IntKind.u64 (m:Int) 9223372036854775808 = (Z:Int):=by
        have:=u64_or_nat m 9223372036854775808 (by omega) (by decide)
        rw [hor,← hZ] at this
        exact this
       have HZ:Hid (mdW true m = Z):=by show _ = _;rw [hZ];unfold mdW;rw [if_neg HM0.out,if_pos rfl]
       have HN:Hid (mdW false m = m):=by show _ = _;unfold mdW;rw [if_neg HM0.out];rfl
       clear hZ
       obtain ⟨y,hy⟩:∃ y:Nat,(y:Int) = x + 1075:=⟨(x + 1075).toNat,by omega⟩
       obtain ⟨z,hz⟩:∃ z:Nat,z = s - 4503599627370496:=⟨_,rfl⟩
       obtain ⟨y2,hy2⟩:∃ y2:Nat,y2 = y * 4503599627370496:=⟨_,rfl⟩
       rw [show (x + 1075).toNat = y from by omega,← hz,← hy2] at r1
       have f2:IntKind.u64.wrap ((s:Int) - 4503599627370496) = (z:Int):=by rw [IntKind.wrap_u64];omega
       have f3:wrap64 (x + 1075) = (y:Int):=by rw [← hy];exact w64x _ (by omega) (by omega)
       have f4:IntKind.u64.wrap (y:Int) = (y:Int):=by rw [IntKind.wrap_u64];omega
       have f5:IntKind.u64.wrap ((y:Int) * 4503599627370496) = (y2:Int):=by rw [IntKind.wrap_u64];omega
       have f6:IntKind.u64.wrap ((z:Int) + (y2:Int)) = (m:Int):=by rw [IntKind.wrap_u64];omega
       clear a1 a2 a3 a4 a5 hj hs k1 r0 r1 r2 r3 hor hm hy hz hy2
       by_cases cn:neg = true
       ·subst cn
        go_wp2
        exact bodyPost_ret (v:=.int .u64 (Z:Int)) (by simp [results,Tryz.results100,go_sem]) rfl ⟨by rw [HM.out,HZ.out],rfl⟩
       ·have cn2:neg = false:=by simpa using cn
        subst cn2
        clear cn
        go_wp2
        exact bodyPost_ret (v:=.int .u64 (m:Int)) (by simp [results,Tryz.results100,go_sem]) rfl ⟨by rw [HM.out,HN.out],rfl⟩
theorem greG (sig P x s G:Nat) (hb:blen sig = P) (h0:sig≠0) (hP:P≤53) (hs:s = min (53 - P) x) (hG:(x - s) * 4503599627370496 + sig * 2 ^ s = G) (hx:P + x≤2098):rgU 53 (sig * 2 ^ x) = G∧blen (sig * 2 ^ x)≤2098:=by
 have h:=rgU_mul 53 sig x s h0 (by rw [hb];exact hs) (by rw [hb];exact hP)
 rw [show (2:Nat) ^ (53 - 1) = 4503599627370496 from by decide,hG] at h
 exact ⟨h,by rw [blen_mul _ _ h0,hb];exact hx⟩
theorem rinf_ (neg:Bool) (w:World):Calls Tryz.prog 96 #[.bool neg] w fun e w'=>e = .returned (.int .u64 ((mdW neg 9218868437227405312:Nat):Int))∧w' = w:=by
 cases neg
 ·rw [show ((mdW false 9218868437227405312:Nat):Int) = 9218868437227405312 from rfl]
  go_enter Tryz.func96,Tryz.ntmps96
  go_wp2
  exact bodyPost_ret (v:=.int .u64 9218868437227405312) (by simp [results,Tryz.results96,go_sem]) rfl ⟨rfl,rfl⟩
 ·rw [show ((mdW true 9218868437227405312:Nat):Int) = 18442240474082181120 from rfl]
  go_enter Tryz.func96,Tryz.ntmps96
  go_wp2
  exact bodyPost_ret (v:=.int .u64 18442240474082181120) (by simp [results,Tryz.results96,go_sem]) rfl ⟨rfl,rfl⟩
theorem rgreD_ (neg:Bool) (w:World):Calls Tryz.prog 97 #[.bool neg,.int .i64 53,.int .i64 1023] w fun e w'=>e = .returned (.int .u64 ((mdW neg 9218868437227405311:Nat):Int))∧w' = w:=by
 obtain ⟨x,hx⟩:∃ x:Int,x = 971:=⟨_,rfl⟩
 have hg:=greG 9007199254740991 53 (x + 1074).toNat 0 9218868437227405311 (blen_uniq 9007199254740991 52 (by decide) (by decide)) (by decide) (by decide) (by omega) (by omega) (by omega)
 have hm:=made_ neg 9007199254740991 x w (by decide) (by omega) (by omega) hg.2
 rw [hg.1,hx] at hm
 obtain ⟨Z,hZ⟩:∃ Z,Z = mdW neg 9218868437227405311:=⟨_,rfl⟩
 rw [← hZ] at hm ⊢
 clear hZ
 have hm2:Calls Tryz.prog 100 #[.bool neg,.int .u64 9007199254740991,.int .i64 971] w fun e w'=>e = .returned (.int .u64 (Z:Int))∧w' = w:=hm
 clear hm
 go_enter Tryz.func97,Tryz.ntmps97
 go_wp2_with fail
 refine hm2.mono ?_;rintro e w' ⟨rfl,hw'⟩;obtain rfl:=hw'.symm;clear hm2
 go_wp2
 exact bodyPost_ret (v:=.int .u64 (Z:Int)) (by simp [results,Tryz.results97,go_sem]) rfl ⟨rfl,rfl⟩
theorem rsign_ (neg:Bool) (vn vd:Value) (n:Nat) (w:World) (hn:Ls w vn (dig n)) (l:blen n≤33554432) :
  Calls Tryz.prog 92 #[.agg #[.bool neg,vn,vd]] w fun e w'=>e = .returned (.int .i64 (if n = 0 then 0 else if neg then -1 else 1))∧Kp w w':=by
 obtain ⟨w0,hw0⟩:∃ w0,w0 = w.alloc (.cells #[.bool neg,vn,vd] 48):=⟨_,rfl⟩
 have hk0:Kp w w0:=by rw [hw0];exact (Kp.refl w).alloc _
 have c0:w0.cell? ⟨w.heap.size,0,none⟩ = some (.bool neg):=by rw [hw0];simp [go_sem]
 have hc:=normR vn (dig n) w0 (hn.kp hk0) (Wd_dig n) (dlen n 1048576 (by omega))
 rw [val_dig] at hc
 have hlz:=dig_len_zero n
 obtain ⟨M,hM⟩:∃ M,M = (dig n).length:=⟨_,rfl⟩
 have HM:Hid (M = (dig n).length):=hM
 rw [← hM] at hlz
 clear hn l hM
 by_cases cz:n = 0
 ·have hM0:M = 0:=hlz.2 cz
  rw [if_pos cz]
  clear hlz cz
  go_enter Tryz.func92,Tryz.ntmps92
  go_wp2_with fail
  rw [← hw0]
  refine hc.mono ?_;rintro e w1 ⟨v1,rfl,⟨p1,c1,rfl,_,_⟩,hk⟩
  rw [← HM.out]
  subst hM0
  have K1:Kp w w1:=hk0.trans hk
  clear hc hk hw0 hk0 c0
  go_wp2
  exact bodyPost_ret (v:=.int .i64 0) (by simp [results,Tryz.results92,go_sem]) rfl ⟨rfl,K1⟩
 ·have hM0:¬ ((M:Int) = 0):=by have:=mt hlz.1 cz;omega
  rw [if_neg cz]
  clear hlz cz
  go_enter Tryz.func92,Tryz.ntmps92
  go_wp2_with fail
  rw [← hw0]
  refine hc.mono ?_;rintro e w1 ⟨v1,rfl,⟨p1,c1,rfl,_,_⟩,hk⟩
  rw [← HM.out]
  have K1:Kp w w1:=hk0.trans hk
  have c1':=kkeep hk c0
  clear hc hk hw0 hk0 c0
  cases neg
  ·go_wp2
   exact bodyPost_ret (v:=.int .i64 1) (by simp [results,Tryz.results92,go_sem]) rfl ⟨rfl,K1⟩
  ·go_wp2
   exact bodyPost_ret (v:=.int .i64 (-1)) (by simp [results,Tryz.results92,go_sem]) rfl ⟨rfl,K1⟩
theorem noTop (n:Bool) (m X:Nat) (hm:m < 9223372036854775808) (hX:X = Fq.wD n m):bits BinOp.andNot IntKind.u64 (X:Int) 9223372036854775808 = (m:Int)∧X < 18446744073709551616:=by
 have hX9:X < 18446744073709551616:=by rw [hX];unfold Fq.wD;split <;> omega
 have h:=u64_andNot_nat X 9223372036854775808 hX9 (by decide)
 have e:X % 9223372036854775808 = m:=by rw [hX];unfold Fq.wD;split <;> omega
 rw [show 18446744073709551615 - 9223372036854775808 = 2 ^ 63 - 1 from by decide,Nat.and_two_pow_sub_one_eq_mod,show (2:Nat) ^ 63 = 9223372036854775808 from by decide,e] at h
 exact ⟨h,hX9⟩
theorem abs_ (n:Bool) (m:Nat) (hm:m < 9223372036854775808) (w:World):Calls Tryz.prog 81 #[.float .f64 (Fq.wD n m)] w fun e w'=>e = .returned (.float .f64 m)∧w' = w:=by
 obtain ⟨X,hX⟩:∃ X,X = Fq.wD n m:=⟨_,rfl⟩
 have f1:=(noTop n m X hm hX).1
 rw [← hX]
 clear hX hm
 have h1:=Fq.fb64 X
 have h2:=Fq.ff64 m
 go_enter Tryz.func81,Tryz.ntmps81
 go_wp2
 exact bodyPost_ret (v:=.float .f64 m) (by simp [results,Tryz.results81,go_sem]) rfl ⟨rfl,rfl⟩
open Ieee in
theorem fin_order (m:Nat) (hm:m < 9223372036854775808):(FloatKind.f64.format.order m 9218868437227405311 == some Ordering.lt || FloatKind.f64.format.order m 9218868437227405311 == some Ordering.eq) = decide (m < 9218868437227405312):=by
 have hf:FloatKind.f64.format = double:=rfl
 have hi:double.infRung = 9218868437227405312:=by decide +kernel
 have hw:double.signWeight = 9223372036854775808:=by decide +kernel
 have hb:double.binade≤double.infRung:=by decide +kernel
 have r1:Fq.rg double m = m:=by unfold Fq.rg;rw [hw];exact Nat.mod_eq_of_lt hm
 have r2:Fq.rg double 9218868437227405311 = 9218868437227405311:=by unfold Fq.rg;rw [hw]
 have p1:Fq.pl double m = (m:Int):=by
  unfold Fq.pl Fq.ng
  rw [r1,hw,Nat.div_eq_of_lt hm];rfl
 have p2:Fq.pl double 9218868437227405311 = 9218868437227405311:=by
  unfold Fq.pl Fq.ng
  rw [r2,hw];rfl
 rw [hf]
 by_cases c:m≤9218868437227405312
 ·rw [Fq.order_num double m 9218868437227405311 hb (by rw [r1,hi];exact c) (by rw [r2,hi];decide),p1,p2]
  by_cases c1:m < 9218868437227405312
  ·rw [decide_eq_true c1]
   by_cases c2:m = 9218868437227405311
   ·rw [c2];rfl
   ·rw [show compare (m:Int) 9218868437227405311 = Ordering.lt from by rw [Int.compare_eq_lt];omega];rfl
  ·rw [decide_eq_false c1,show compare (m:Int) 9218868437227405311 = Ordering.gt from by rw [Int.compare_eq_gt];omega];rfl
 ·rw [Fq.order_nan_left double m 9218868437227405311 hb (by rw [r1,hi];omega),decide_eq_false (by omega)];rfl
theorem finite_ (n:Bool) (m:Nat) (hm:m < 9223372036854775808) (w:World):Calls Tryz.prog 60 #[.float .f64 (Fq.wD n m)] w fun e w'=>e = .returned (.bool (decide (m < 9218868437227405312)))∧w' = w:=by
 have h:=abs_ n m hm w
 obtain ⟨X,hX⟩:∃ X,X = Fq.wD n m:=⟨_,rfl⟩
 rw [← hX] at h ⊢
 clear hX
 go_enter Tryz.func60,Tryz.ntmps60
 go_wp2_with fail
 refine h.mono ?_;rintro e w' ⟨rfl,hw'⟩;obtain rfl:=hw'.symm;clear h hw'
 go_wp2
 exact bodyPost_ret (v:=.bool (decide (m < 9218868437227405312))) (by rw [← fin_order m hm];simp [results,Tryz.results60,go_sem]) rfl ⟨rfl,rfl⟩
theorem upward_ (d:Int) (S r wh:Nat) (w:World) (hr:r < 4611686018427387904) :
  Calls Tryz.prog 159 #[.int .i64 d,.int .u64 (S:Int),.int .u64 (r:Int),.int .u64 (wh:Int)] w fun e w'=>e = .returned (.bool (upw d S r wh))∧w' = w:=by
 unfold upw
 obtain ⟨r2,hr2⟩:∃ r2,r2 = 2 * r:=⟨_,rfl⟩
 have g1:IntKind.u64.wrap (2 * (r:Int)) = (r2:Int):=by rw [IntKind.wrap_u64];omega
 rw [← hr2]
 by_cases c1:d = 1
 ·rw [if_pos c1]
  have e1:(d == 1) = true:=by simp [c1]
  clear hr g1 hr2 c1
  by_cases cr:0 < r
  ·rw [decide_eq_true cr]
   have t1:0 < (r:Int):=by omega
   clear cr
   go_enter Tryz.func159,Tryz.ntmps159
   go_wp2
   exact bodyPost_ret (v:=.bool true) (by simp [results,Tryz.results159,go_sem] <;> omega) rfl ⟨rfl,rfl⟩
  ·rw [decide_eq_false cr]
   have t1:r = 0:=by omega
   subst t1
   clear cr
   go_enter Tryz.func159,Tryz.ntmps159
   go_wp2
   exact bodyPost_ret (v:=.bool false) (by simp [results,Tryz.results159,go_sem] <;> omega) rfl ⟨rfl,rfl⟩
 ·rw [if_neg c1]
  have e1:(d == 1) = false:=by simp [c1]
  by_cases c2:d = -1
  ·rw [if_pos c2]
   have e2:(d == -1) = true:=by simp [c2]
   clear hr g1 hr2 c1 c2
   go_enter Tryz.func159,Tryz.ntmps159
   go_wp2
   exact bodyPost_ret (v:=.bool false) (by simp [results,Tryz.results159,go_sem] <;> omega) rfl ⟨rfl,rfl⟩
  ·rw [if_neg c2]
   have e2:(d == -1) = false:=by simp [c2]
   clear hr hr2 c1 c2
   by_cases ca:wh < r2
   ·rw [decide_eq_true ca]
    have t1:(wh:Int) < (r2:Int):=by omega
    rw [Bool.true_or]
    clear ca
    go_enter Tryz.func159,Tryz.ntmps159
    go_wp2
    exact bodyPost_ret (v:=.bool true) (by simp [results,Tryz.results159,go_sem] <;> omega) rfl ⟨rfl,rfl⟩
   ·rw [decide_eq_false ca,Bool.false_or]
    have t1:¬ ((wh:Int) < (r2:Int)):=by omega
    by_cases cb:wh = r2
    ·have t2:((r2:Int) == (wh:Int)) = true:=by simp;omega
     rw [decide_eq_true cb,Bool.true_and]
     have HC:Hid (wh = r2):=cb
     clear ca cb
     rcases (by omega:S % 2 = 0∨S % 2 = 1) with cp | cp
     ·have t3:(S:Int) % 2 = 0:=by omega
      rw [cp]
      clear cp
      go_enter Tryz.func159,Tryz.ntmps159
      go_wp2
      exact bodyPost_ret (v:=.bool false) (by simp [results,Tryz.results159,go_sem] <;> omega) rfl ⟨rfl,rfl⟩
     ·have t3:(S:Int) % 2 = 1:=by omega
      rw [cp]
      clear cp
      go_enter Tryz.func159,Tryz.ntmps159
      go_wp2
      exact bodyPost_ret (v:=.bool true) (by simp [results,Tryz.results159,go_sem] <;> omega) rfl ⟨rfl,rfl⟩
    ·have t2:((r2:Int) == (wh:Int)) = false:=by simp;omega
     rw [decide_eq_false cb,Bool.false_and]
     clear ca cb
     go_enter Tryz.func159,Tryz.ntmps159
     go_wp2
     exact bodyPost_ret (v:=.bool false) (by simp [results,Tryz.results159,go_sem] <;> omega) rfl ⟨rfl,rfl⟩
theorem minf_ (neg:Bool) (w:World):Calls Tryz.prog 32 #[.int .i64 (if neg = true then -1 else 1)] w fun e w'=>e = .returned (.float .f64 (Fq.wD neg 9218868437227405312))∧w' = w:=by
 have h1:∀ w:World,(callFunc 22 #[.int .u64 18442240474082181120]).run Tryz.prog w = .ok (.value (.float .f64 18442240474082181120)) w:=fun w=>Fq.ff64 18442240474082181120 w
 have h2:∀ w:World,(callFunc 22 #[.int .u64 9218868437227405312]).run Tryz.prog w = .ok (.value (.float .f64 9218868437227405312)) w:=fun w=>Fq.ff64 9218868437227405312 w
 cases neg
 ·go_enter Tryz.func32,Tryz.ntmps32
  go_wp2
  exact bodyPost_ret (v:=.float .f64 9218868437227405312) (by simp [results,Tryz.results32,go_sem]) rfl ⟨rfl,rfl⟩
 ·go_enter Tryz.func32,Tryz.ntmps32
  go_wp2
  exact bodyPost_ret (v:=.float .f64 18442240474082181120) (by simp [results,Tryz.results32,go_sem]) rfl ⟨rfl,rfl⟩
theorem infD_false (w:World):Calls Tryz.prog 87 #[.bool false] w fun e w'=>e = .returned (.float .f64 (Fq.wD false 9218868437227405312))∧w' = w:=by
 have h:=minf_ false w
 have h':Calls Tryz.prog 32 #[.int .i64 (1)] w fun e w'=>e = .returned (.float .f64 9218868437227405312)∧w' = w:=h
 clear h
 go_enter Tryz.func87,Tryz.ntmps87
 go_wp2_with fail
 refine h'.mono ?_;rintro e w' ⟨rfl,hw'⟩;obtain rfl:=hw'.symm;clear h' hw'
 go_wp2
 exact bodyPost_ret (v:=.float .f64 9218868437227405312) (by simp [results,Tryz.results87,go_sem]) rfl ⟨rfl,rfl⟩
theorem infD_true (w:World):Calls Tryz.prog 87 #[.bool true] w fun e w'=>e = .returned (.float .f64 (Fq.wD true 9218868437227405312))∧w' = w:=by
 have h:=minf_ true w
 have h':Calls Tryz.prog 32 #[.int .i64 (-1)] w fun e w'=>e = .returned (.float .f64 18442240474082181120)∧w' = w:=h
 clear h
 go_enter Tryz.func87,Tryz.ntmps87
 go_wp2_with fail
 refine h'.mono ?_;rintro e w' ⟨rfl,hw'⟩;obtain rfl:=hw'.symm;clear h' hw'
 go_wp2
 exact bodyPost_ret (v:=.float .f64 18442240474082181120) (by simp [results,Tryz.results87,go_sem]) rfl ⟨rfl,rfl⟩
theorem infD_ (neg:Bool) (w:World):Calls Tryz.prog 87 #[.bool neg] w fun e w'=>e = .returned (.float .f64 (Fq.wD neg 9218868437227405312))∧w' = w:=by
 cases neg
 ·exact infD_false w
 ·exact infD_true w
theorem greDp_ (neg:Bool) (w:World):Calls Tryz.prog 161 #[.bool neg] w fun e w'=>e = .returned (.float .f64 (Fq.wD neg 9218868437227405311))∧Fq.Grown w w':=by
 have h:=infD_ neg w
 obtain ⟨Z,hZ⟩:∃ Z,Z = Fq.wD neg 9218868437227405312:=⟨_,rfl⟩
 obtain ⟨Y,hY⟩:∃ Y,Y = Fq.wD neg 9218868437227405311:=⟨_,rfl⟩
 cases neg
 ·have hd:=Fq.dn_d false 9218868437227405312 (by decide) (by decide) w
  rw [show Fq.fD (Fq.plz false 9218868437227405312 - 1) = Fq.wD false 9218868437227405311 from rfl,← hZ,← hY] at hd
  rw [← hZ] at h
  rw [← hY]
  clear hZ hY
  go_enter Tryz.func161,Tryz.ntmps161
  go_wp2_with fail
  refine h.mono ?_;rintro e w' ⟨rfl,hw'⟩;obtain rfl:=hw'.symm;clear h hw'
  go_wp2_with fail
  refine hd.mono ?_;rintro e w1 ⟨rfl,hk⟩;clear hd
  go_wp2
  exact bodyPost_ret (v:=.float .f64 Y) (by simp [results,Tryz.results161,go_sem]) rfl ⟨rfl,hk⟩
 ·have hd:=Fq.up_d true 9218868437227405312 (by decide) (by decide) w
  rw [show Fq.fD (Fq.plz true 9218868437227405312 + 1) = Fq.wD true 9218868437227405311 from rfl,← hZ,← hY] at hd
  rw [← hZ] at h
  rw [← hY]
  clear hZ hY
  go_enter Tryz.func161,Tryz.ntmps161
  go_wp2_with fail
  refine h.mono ?_;rintro e w' ⟨rfl,hw'⟩;obtain rfl:=hw'.symm;clear h hw'
  go_wp2_with fail
  refine hd.mono ?_;rintro e w1 ⟨rfl,hk⟩;clear hd
  go_wp2
  exact bodyPost_ret (v:=.float .f64 Y) (by simp [results,Tryz.results161,go_sem]) rfl ⟨rfl,hk⟩
theorem fmtD_ (w:World):Calls Tryz.prog 157 #[] w fun e w'=>e = .returned (.tuple #[.int .i64 53,.int .i64 (-1074)])∧Fq.Grown w w':=by
 have h1:=Fq.split_d false 4607182418800017408 (by decide)
 have h0:=Fq.split_d false 0 (by decide)
 rw [show Fq.wD false 4607182418800017408 = 4607182418800017408 from rfl,show (false && !(4607182418800017408 == 0)) = false from rfl,show (((Fq.sgD 4607182418800017408:Nat):Int)) = 4503599627370496 from by decide +kernel] at h1
 rw [show Fq.wD false 0 = 0 from rfl,show (false && !(0 == 0)) = false from rfl,show Fq.epD 0 = -1074 from by decide +kernel] at h0
 obtain ⟨e1,he1⟩:∃ e1,e1 = Fq.epD 4607182418800017408:=⟨_,rfl⟩
 obtain ⟨s0,hs0⟩:∃ s0:Int,s0 = ((Fq.sgD 0:Nat):Int):=⟨_,rfl⟩
 rw [← he1] at h1
 rw [← hs0] at h0
 have hl:=Fq.len64_ 4503599627370496 (by decide) (by decide)
 rw [show ((Lib.bitLen (4503599627370496:Int).toNat:Nat):Int) = 53 from by decide +kernel] at hl
 have c1:floatOfInt .f64 1 = 4607182418800017408:=by decide +kernel
 have c0:floatOfInt .f64 0 = 0:=by decide +kernel
 clear he1 hs0
 go_enter Tryz.func157,Tryz.ntmps157
 go_wp2_with fail
 refine (h1 _).mono ?_;rintro e w1 ⟨rfl,hk⟩;clear h1
 go_wp2_with fail
 refine (h0 _).mono ?_;rintro e w2 ⟨rfl,hk2⟩;clear h0
 have hk3:=Fq.gtrans hk hk2
 have hl2:=hl w2
 clear hl hk hk2
 go_wp2_with fail
 refine hl2.mono ?_;rintro e w' ⟨rfl,hw'⟩;obtain rfl:=hw'.symm;clear hl2 hw'
 go_wp2
 exact bodyPost_ret (v:=.tuple #[.int .i64 53,.int .i64 (-1074)]) (by simp [results,Tryz.results157,go_sem]) rfl ⟨rfl,hk3⟩
theorem kfro {W w:World} {b o:Nat} (g:Kp W w) (h:b < W.heap.size):w.frozen? ⟨b,o,none⟩ = W.frozen? ⟨b,o,none⟩:=World.frozen?_of_block (w:=W) (Below.block g b h)
theorem tz0_ (w:World):Calls Tryz.prog 89 #[.int .u64 0] w fun e w'=>e = .returned (.int .i64 64)∧w' = w:=by
 go_enter Tryz.func89,Tryz.ntmps89
 go_wp2
 exact bodyPost_ret (v:=.int .i64 64) (by simp [results,Tryz.results89,go_sem]) rfl ⟨rfl,rfl⟩
theorem take_ (n:Bool) (m:Nat) (hm:m < 9218868437227405312) :
  ∃ (a:Nat) (ex:Int),a * 2 ^ (ex + 1074).toNat = Fq.vV Ieee.double m∧-1074≤ex∧ex≤2048∧a < 9007199254740992∧∀ w:World,Fq.Tab w→Calls Tryz.prog 62 #[.float .f64 (Fq.wD n m)] w fun e w'=>∃ v,e = .returned (.agg #[.bool (n && !(m == 0)),v,.int .i64 ex])∧Ls w' v (dig a)∧Kp w w':=by
 obtain ⟨v1,v2,v3,v4,v5⟩:=Fq.vlsgD m hm
 obtain ⟨X,hX⟩:∃ X,X = Fq.wD n m:=⟨_,rfl⟩
 obtain ⟨sg,hsg⟩:∃ sg,sg = Fq.sgD m:=⟨_,rfl⟩
 obtain ⟨ep,hep⟩:∃ ep,ep = Fq.epD m:=⟨_,rfl⟩
 obtain ⟨nn,hnn⟩:∃ nn:Bool,nn = (n && !(m == 0)):=⟨_,rfl⟩
 rw [← hsg,← hep] at v1
 rw [← hsg] at v2 v3
 rw [← hep] at v4 v5
 -- the odd part and its zeros
 obtain ⟨a,k,hk,hka,htz,hsh,ha⟩:∃ a k:Nat,a * 2 ^ (ep + (k:Int) + 1074).toNat = Fq.vV Ieee.double m∧k≤64∧(∀ w1,Fq.Tab w1→Calls Tryz.prog 89 #[.int .u64 (sg:Int)] w1 fun e w'=>e = .returned (.int .i64 (k:Int))∧w' = w1)∧(sg:Int) / 2 ^ min k 64 = (a:Int)∧a < 9007199254740992:=by
  by_cases c:sg = 0
  ·refine ⟨0,64, ?_,by omega, ?_,by rw [c];simp,by omega⟩
   ·have e:Fq.vV Ieee.double m = Fq.vlD m:=rfl
    rw [e,← v1,c];simp
   ·intro w1 _
    rw [c];exact tz0_ w1
  ·obtain ⟨o,o1,o2,o3,o4⟩:=ctz_odd sg c
   have hcl:blen sg≤53:=by rw [blen_le_iff,show (2:Nat) ^ 53 = 9007199254740992 from by decide];exact v2
   refine ⟨o,ctz sg, ?_,by omega, ?_, ?_, ?_⟩
   ·have e:Fq.vV Ieee.double m = Fq.vlD m:=rfl
    rw [e,← v1,show (ep + ((ctz sg:Nat):Int) + 1074).toNat = ctz sg + (ep + 1074).toNat from by omega,Nat.pow_add,← Nat.mul_assoc,← o2]
   ·intro w1 t1
    have h:=Fq.tz_ o (ctz sg) o1 (by rw [← o2];omega) w1 t1
    rw [← o2] at h
    exact h
   ·rw [Nat.min_eq_left (by omega)]
    have:((sg / 2 ^ ctz sg:Nat):Int) = (o:Int):=by rw [o3]
    rw [← this,Int.natCast_ediv,castpow]
   ·have:=Nat.div_le_self sg (2 ^ ctz sg);omega
 refine ⟨a,ep + (k:Int),hk,by omega,by omega,ha,fun w hQ=>?_⟩
 obtain ⟨w0,hw0⟩:∃ w0,w0 = w.alloc (.cells #[.bool false,.slice none 0 0,.int .i64 0] 73):=⟨_,rfl⟩
 obtain ⟨B,hB⟩:∃ B,B = w.heap.size:=⟨_,rfl⟩
 have hk0:Kp w w0:=by rw [hw0];exact (Kp.refl w).alloc _
 have hsp:=Fq.split_d n m hm w0
 rw [← hX,← hsg,← hep,← hnn] at hsp
 rw [← hX,← hnn]
 rw [Nat.min_eq_left hka] at hsh
 have hsm:=fun w1=>nsmall_ a (by omega) w1
 have htz2:=fun w1 (kk:Kp w0 w1)=>htz w1 (Fq.Tab.grown hQ (hk0.trans kk))
 have hal:∀ w1,Kp w0 w1→True:=fun _ _=>trivial
 have e0:w0.cell? ⟨B,0,none⟩ = some (.bool false):=by rw [hw0,hB];simp [go_sem]
 have e1:w0.cell? ⟨B,1,none⟩ = some (.slice none 0 0):=by rw [hw0,hB];simp [go_sem]
 have e2:w0.cell? ⟨B,2,none⟩ = some (.int .i64 0):=by rw [hw0,hB];simp [go_sem]
 have f0:w0.frozen? ⟨B,0,none⟩ = false:=by rw [hw0,hB];simp [go_sem]
 have f1:w0.frozen? ⟨B,1,none⟩ = false:=by rw [hw0,hB];simp [go_sem]
 have f2:w0.frozen? ⟨B,2,none⟩ = false:=by rw [hw0,hB];simp [go_sem]
 have hlt:=cell_lt e0
 have hep1:-1074≤ep:=v4
 have hep2:ep≤971:=v5
 have HW:Hid (w0 = w.alloc (.cells #[.bool false,.slice none 0 0,.int .i64 0] 73)∧B = w.heap.size∧Kp w w0):=⟨hw0,hB,hk0⟩
 clear hal v1 v2 v3 v4 v5 hX hsg hep hnn hw0 hB hk0 htz hQ hk ha hm
 go_enter Tryz.func62,Tryz.ntmps62
 go_wp2_with fail
 rw [← HW.out.1,← HW.out.2.1]
 refine hsp.mono ?_;rintro e w1 ⟨rfl,k1⟩
 have k1':Kp w0 w1:=k1
 have htz3:=htz2 w1 k1'
 clear hsp htz2 k1
 go_wp2_with fail
 refine htz3.mono ?_;rintro e w' ⟨rfl,hw'⟩;obtain rfl:=hw'.symm;clear hw' htz3
 have hs2:=hsm w1
 clear hsm
 go_wp2_with fail
 try rw [hsh]
 refine hs2.mono ?_;rintro e w2 ⟨v,rfl,ho,k2⟩
 have hls:=ho.ls
 obtain ⟨pv,cv,rfl,hav,hcv⟩:=ho.arr
 have k02:=k1'.trans k2
 have hlt2:=ho.lt
 replace e0:=kkeep k02 e0
 replace e1:=kkeep k02 e1
 replace e2:=kkeep k02 e2
 replace f0:=(kfro k02 hlt).trans f0
 replace f1:=(kfro k02 hlt).trans f1
 replace f2:=(kfro k02 hlt).trans f2
 have hks:=Below.size k1'
 obtain ⟨L,hL⟩:∃ L,L = (dig a).length:=⟨_,rfl⟩
 rw [← hL]
 have HO:Hid (Own w2 w1.heap.size (.slice pv (dig a).length cv) (dig a)∧L = (dig a).length∧Kp w0 w2∧B < w1.heap.size):=⟨ho,hL,k02,by omega⟩
 clear hs2 ho hls hav hcv k1' k2 k02 hlt2 hL hks
 go_wp2
 obtain ⟨ho,hL,k02,hBl⟩:=HO.out
 have kb:Kb B w2 (((w2.setCell ⟨B,0,none⟩ (.bool nn)).setCell ⟨B,1,none⟩ (.slice pv L cv)).setCell ⟨B,2,none⟩ (.int .i64 (ep + (k:Int)))):=(((Kb.refl B w2).setCell 0 _).setCell 1 _).setCell 2 _
 have ho2:=ho.kb kb (fun g hg=>by have:=ho.lt g hg;omega)
 have hls:=ho2.ls
 rw [← hL] at hls
 have hkw:Kp w (((w2.setCell ⟨B,0,none⟩ (.bool nn)).setCell ⟨B,1,none⟩ (.slice pv L cv)).setCell ⟨B,2,none⟩ (.int .i64 (ep + (k:Int)))):=kb.kp (HW.out.2.2.trans k02) (by rw [HW.out.2.1];exact Nat.le_refl _)
 exact bodyPost_ret (v:=.agg #[.bool nn,.slice pv L cv,.int .i64 (ep + (k:Int))]) (by simp [results,Tryz.results62,go_sem,e0,e1,e2]) rfl ⟨_,rfl,hls,hkw⟩
end Go.Proofs.YtngglmnhjjlgkaaGreatDoor
