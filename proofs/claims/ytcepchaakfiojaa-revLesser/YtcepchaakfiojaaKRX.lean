import Derived.Test.YtcepchaakfiojaaKBY
set_option maxHeartbeats 1000000
set_option maxRecDepth 20000
namespace Go.Proofs.Ytcepchaakfiojaa
open Go.RowKit
theorem leftR (v:Value) (a m:Nat) (w:World) (h:Ls w v (dig a)) (l:blen a≤16777216) (hm:m≤16777216) :
    Calls Try.prog 61 #[v,.int .i64 (m:Int)] w fun e w'=>∃ v',e = .returned v'∧Ls w' v' (dig (a * 2 ^ m))∧Kp w w':=by
  obtain ⟨p,c,rfl,hA,hc⟩:=h
  have h:=rleft_ p c m (dig a) w hA (Wd_dig a) (Nat.le_trans (dlen a 524288 (by omega)) (by omega)) hm
  rw [val_dig] at h
  exact h.mono fun e w' ⟨v,h1,h2,h3⟩=>⟨v,h1,h2.ls,h3⟩
theorem cmpR (v1 v2:Value) (a b:Nat) (w:World) (h1:Ls w v1 (dig a)) (h2:Ls w v2 (dig b)) (l1:blen a≤33554432) (l2:blen b≤33554432) :
    Calls Try.prog 43 #[v1,v2] w fun e w'=>e = .returned (.int .i64 (cmpN a b))∧Kp w w':=by
  obtain ⟨p,c,rfl,hA,hc⟩:=h1
  obtain ⟨q,d,rfl,hB,hd⟩:=h2
  have e1:=dlen a 1048576 (by omega)
  have e2:=dlen b 1048576 (by omega)
  have h:=rcmp_ p q c d (dig a) (dig b) w hA hB (Wd_dig a) (Wd_dig b) (by omega) (by omega)
  rw [val_dig,val_dig] at h
  exact h
theorem lenR (v:Value) (a:Nat) (w:World) (h:Ls w v (dig a)) (l:blen a≤33554432) :
    Calls Try.prog 70 #[v] w fun e w'=>e = .returned (.int .i64 (blen a:Nat))∧w' = w:=by
  obtain ⟨p,c,rfl,hA,hc⟩:=h
  have e1:=dlen a 1048576 (by omega)
  have h:=rlen_ p c (dig a) w hA (Wd_dig a) (by omega)
  rw [val_dig] at h
  exact h
theorem normR (v:Value) (L:List Int) (w:World) (h:Ls w v L) (hw:Wd L) (l:L.length≤1048576) :
    Calls Try.prog 57 #[v] w fun e w'=>∃ v',e = .returned v'∧Ls w' v' (dig (val L))∧Kp w w':=by
  obtain ⟨p,c,rfl,hA,hc⟩:=h
  have h:=rnorm_ p c L w hA (by omega)
  rw [nz_dig L hw] at h
  exact h.mono fun e w' ⟨v,h1,h2,h3⟩=>⟨v,h1,h2.ls,h3⟩
theorem wordR (v:Value) (a:Nat) (w:World) (h:Ls w v (dig a)) (l:a < 18446744073709551616) :
    Calls Try.prog 74 #[v] w fun e w'=>e = .returned (.tuple #[.int .u64 (a:Int),.bool true])∧w' = w:=by
  obtain ⟨p,c,rfl,hA,hc⟩:=h
  have hl:len32 a≤2:=by
    by_cases c:len32 a≤2
    · exact c
    · exfalso
      have:=len32_lt a 2 (by omega)
      omega
  have hl2:(dig a).length≤2:=hl
  have h:=rword_ p c (dig a) w hA (Wd_dig a) (by omega)
  rw [val_dig] at h
  unfold wordN at h
  rw [if_neg (by omega)] at h
  exact h
theorem byR (v1 v2:Value) (a b:Nat) (w:World) (h1:Ls w v1 (dig a)) (h2:Ls w v2 (dig b)) (l1:blen a≤33554432) (l2:blen b≤8388608) (h0:0 < b) :
    Calls Try.prog 73 #[v1,v2] w fun e w'=>∃ q r,e = .returned (.tuple #[q,r])∧Ls w' q (dig (a / b))∧Ls w' r (dig (a % b))∧Kp w w':=by
  obtain ⟨p,c,rfl,hA,hc⟩:=h1
  obtain ⟨q,d,rfl,hB,hd⟩:=h2
  have e1:=dlen a 1048576 (by omega)
  have e2:=dlen b 262144 (by omega)
  have h:=rby_ p q c d (dig a) (dig b) w hA hB (Wd_dig a) (Wd_dig b) e1 (by omega) (by rw [tl_dig];exact e2) (by rw [val_dig];exact h0)
  rw [val_dig,val_dig] at h
  exact h.mono fun e w' ⟨v,he,⟨p1,c1,p2,c2,e2,o1,o2,_⟩,hk⟩=>⟨_,_,by rw [he,e2],o1.ls,o2.ls,hk⟩
theorem w64x (z:Int) (h0:-1099511627776≤z) (h1:z≤1099511627776):wrap64 z = z:=by unfold wrap64;omega
theorem made_ (neg:Bool) (sig:Nat) (e:Int) (w:World) (hs:sig≤9007199254740992) (he:-1074≤e) (he2:e < 5000) (hb:blen (sig * 2 ^ (e + 1074).toNat)≤2098) :
    Calls Try.prog 75 #[.bool neg,.int .u64 (sig:Int),.int .i64 e] w fun r w'=>r = .returned (.int .u64 ((mdW neg (rgU 53 (sig * 2 ^ (e + 1074).toNat)):Nat):Int))∧w' = w:=by
  by_cases c0:sig = 0
  · subst c0
    rw [Nat.zero_mul,rgU_zero]
    clear hb
    go_enter Try.func75,Try.ntmps75
    go_wp2
    exact bodyPost_ret (v:=.int .u64 0) (by simp [results,Try.results75,go_sem]) rfl ⟨rfl,rfl⟩
  · have t0:¬ ((sig:Int) = 0):=by omega
    obtain ⟨U,hU⟩:∃ U,U = sig * 2 ^ (e + 1074).toNat:=⟨_,rfl⟩
    rw [← hU] at hb ⊢
    have HB:Hid (blen U≤2098):=hb
    have j0:MdI U sig e:=⟨c0,hs,he,by omega,hU.symm⟩
    clear hb hU c0 hs he
    go_enter Try.func75,Try.ntmps75
    go_wp2
    go_loop [1,2] (fun a b=>∃ (s:Nat) (x:Int),a = .int .u64 (s:Int)∧b = .int .i64 x∧MdI U s x∧(x < 5000∨s < 9007199254740992)) (fun a _=>(intOf a).toNat)
    case atStart=>exact ⟨_,_,rfl,rfl,j0,Or.inl he2⟩
    case round =>
      clear j0 t0 he2
      obtain ⟨s,x,rfl,rfl,j1,hx⟩:=hrel
      obtain ⟨a1,a2,a3,a4,a5⟩:=id j1
      by_cases k1:9007199254740992≤s
      · have t1:9007199254740992≤(s:Int):=by omega
        obtain ⟨q,q2⟩:=j1.half (by omega) k1
        have f4:s / 2 < s:=by omega
        obtain ⟨h,hh⟩:∃ h,h = s / 2:=⟨_,rfl⟩
        rw [← hh] at q q2 f4
        have f2:(s:Int) / 2 = (h:Int):=by omega
        have f3:wrap64 (x + 1) = x + 1:=w64x _ (by omega) (by omega)
        have Q:Hid ((MdI U h (x + 1)∧h < 9007199254740992)∧h < s):=⟨⟨q,q2⟩,f4⟩
        clear a1 a2 a3 a4 a5 j1 hx q q2 k1 f4 hh
        go_wp2
        exact ⟨⟨h,x + 1,rfl,by rw [f3],Q.out.1.1,Or.inr Q.out.1.2⟩,by simp only [intOf,Int.toNat_natCast];exact Q.out.2⟩
      · have j2:s < 9007199254740992:=by omega
        have t1:¬ (9007199254740992≤(s:Int)):=by omega
        have t2:¬ (x < -1074):=by omega
        have f1:bits BinOp.and IntKind.u64 (s:Int) 1 = ((s % 2:Nat):Int):=by
          have:=u64_and_nat s 1 (by omega) (by omega)
          rw [Nat.and_one_is_mod] at this
          exact this
        clear a1 a2 a3 a4 a5 hx k1
        rcases (by omega:s % 2 = 0∨s % 2 = 1) with cp | cp
        · rw [cp] at f1
          have HJ:Hid (MdI U s x∧s < 9007199254740992):=⟨j1,j2⟩
          clear cp j1 j2
          go_wp2
          obtain ⟨j1,j2⟩:=HJ.out
          clear f1 t1 t2 HJ
          go_loop [1,2] (fun a b=>∃ (s:Nat) (x:Int),a = .int .u64 (s:Int)∧b = .int .i64 x∧MdI U s x∧s < 9007199254740992) (fun _ b=>(intOf b + 1074).toNat)
          case atStart=>exact ⟨_,_,rfl,rfl,j1,j2⟩
          case round =>
            clear j1 j2
            obtain ⟨s,x,rfl,rfl,hj,hs⟩:=hrel
            obtain ⟨a1,a2,a3,a4,a5⟩:=id hj
            by_cases k1:s < 4503599627370496
            · have t1:(s:Int) < 4503599627370496:=by omega
              by_cases k2:-1074 < x
              · have q:=hj.dbl k1 k2
                have q2:2 * s < 9007199254740992:=by omega
                have f2:IntKind.u64.wrap ((s:Int) * 2) = ((2 * s:Nat):Int):=by rw [IntKind.wrap_u64];omega
                have f3:wrap64 (x - 1) = x - 1:=w64x _ (by omega) (by omega)
                have f4:(x - 1 + 1074).toNat < (x + 1074).toNat:=by omega
                have Q:Hid (MdI U (2 * s) (x - 1)∧2 * s < 9007199254740992):=⟨q,q2⟩
                clear a1 a2 a3 a4 a5 hj hs q q2 k1
                go_wp2
                exact ⟨⟨2 * s,x - 1,by first | rw [f2] | exact congrArg _ (by omega),by rw [f3],Q.out.1,Q.out.2⟩,by simp only [intOf,f3];exact f4⟩
              · obtain ⟨r1,r2⟩:=hj.low k1 (by omega)
                have HM:Hid (rgU 53 U = s):=r1
                have HM0:Hid (s≠0):=a1
                have hor:((s:Nat):Nat) ||| 9223372036854775808 = 9223372036854775808 + s:=by
                  have:=or_low s 1 63 (by rw [show (2:Nat) ^ 63 = 9223372036854775808 from by decide];omega)
                  rw [show 1 * 2 ^ 63 = 9223372036854775808 from by decide] at this
                  omega
                obtain ⟨m,hm⟩:∃ m,m = s:=⟨_,rfl⟩
                subst hm
                obtain ⟨Z,hZ⟩:∃ Z,Z = 9223372036854775808 + m:=⟨_,rfl⟩
                have fo:bits BinOp.or IntKind.u64 (m:Int) 9223372036854775808 = (Z:Int):=by
                  have:=u64_or_nat m 9223372036854775808 (by omega) (by decide)
                  rw [hor,← hZ] at this
                  exact this
                have HZ:Hid (mdW true m = Z):=by show _ = _;rw [hZ];unfold mdW;rw [if_neg HM0.out,if_pos rfl]
                have HN:Hid (mdW false m = m):=by show _ = _;unfold mdW;rw [if_neg HM0.out];rfl
                clear hZ
                have t1b:¬ (4503599627370496≤(m:Int)):=by omega
                clear a1 a2 a3 a4 a5 hj hs k1 r1 r2 hor
                by_cases cn:neg = true
                · subst cn
                  go_wp2
                  exact bodyPost_ret (v:=.int .u64 (Z:Int)) (by simp [results,Try.results75,go_sem]) rfl ⟨by rw [HM.out,HZ.out],rfl⟩
                · have cn2:neg = false:=by simpa using cn
                  subst cn2
                  clear cn
                  go_wp2
                  exact bodyPost_ret (v:=.int .u64 (m:Int)) (by simp [results,Try.results75,go_sem]) rfl ⟨by rw [HM.out,HN.out],rfl⟩
            · have t1:¬ ((s:Int) < 4503599627370496):=by omega
              have t1b:4503599627370496≤(s:Int):=by omega
              obtain ⟨r0,r1,r2,r3⟩:=hj.top (by omega) hs HB.out
              obtain ⟨m,hm⟩:∃ m,m = rgU 53 U:=⟨_,rfl⟩
              rw [← hm] at r1 r2 r3
              have HM:Hid (rgU 53 U = m):=hm.symm
              have HM0:Hid (m≠0):=r3
              have hor:m ||| 9223372036854775808 = 9223372036854775808 + m:=by
                have:=or_low m 1 63 (by rw [show (2:Nat) ^ 63 = 9223372036854775808 from by decide];omega)
                rw [show 1 * 2 ^ 63 = 9223372036854775808 from by decide] at this
                omega
              obtain ⟨Z,hZ⟩:∃ Z,Z = 9223372036854775808 + m:=⟨_,rfl⟩
              have fo:bits BinOp.or IntKind.u64 (m:Int) 9223372036854775808 = (Z:Int):=by
                have:=u64_or_nat m 9223372036854775808 (by omega) (by decide)
                rw [hor,← hZ] at this
                exact this
              have HZ:Hid (mdW true m = Z):=by show _ = _;rw [hZ];unfold mdW;rw [if_neg HM0.out,if_pos rfl]
              have HN:Hid (mdW false m = m):=by show _ = _;unfold mdW;rw [if_neg HM0.out];rfl
              clear hZ
              obtain ⟨y,hy⟩:∃ y:Nat,(y:Int) = x + 1075:=⟨(x + 1075).toNat,by omega⟩
              obtain ⟨z,hz⟩:∃ z:Nat,z = s - 4503599627370496:=⟨_,rfl⟩
              obtain ⟨y2,hy2⟩:∃ y2:Nat,y2 = y * 4503599627370496:=⟨_,rfl⟩
              rw [show (x + 1075).toNat = y from by omega,← hz,← hy2] at r1
              have f2:IntKind.u64.wrap ((s:Int) - 4503599627370496) = (z:Int):=by rw [IntKind.wrap_u64];omega
              have f3:wrap64 (x + 1075) = (y:Int):=by rw [← hy];exact w64x _ (by omega) (by omega)
              have f4:IntKind.u64.wrap (y:Int) = (y:Int):=by rw [IntKind.wrap_u64];omega
              have f5:IntKind.u64.wrap ((y:Int) * 4503599627370496) = (y2:Int):=by rw [IntKind.wrap_u64];omega
              have f6:IntKind.u64.wrap ((z:Int) + (y2:Int)) = (m:Int):=by rw [IntKind.wrap_u64];omega
              clear a1 a2 a3 a4 a5 hj hs k1 r0 r1 r2 r3 hor hm hy hz hy2
              by_cases cn:neg = true
              · subst cn
                go_wp2
                exact bodyPost_ret (v:=.int .u64 (Z:Int)) (by simp [results,Try.results75,go_sem]) rfl ⟨by rw [HM.out,HZ.out],rfl⟩
              · have cn2:neg = false:=by simpa using cn
                subst cn2
                clear cn
                go_wp2
                exact bodyPost_ret (v:=.int .u64 (m:Int)) (by simp [results,Try.results75,go_sem]) rfl ⟨by rw [HM.out,HN.out],rfl⟩
        · rw [cp] at f1
          have HJ:Hid (MdI U s x∧s < 9007199254740992):=⟨j1,j2⟩
          clear cp j1 j2
          go_wp2
          obtain ⟨j1,j2⟩:=HJ.out
          clear f1 t1 t2 HJ
          go_loop [1,2] (fun a b=>∃ (s:Nat) (x:Int),a = .int .u64 (s:Int)∧b = .int .i64 x∧MdI U s x∧s < 9007199254740992) (fun _ b=>(intOf b + 1074).toNat)
          case atStart=>exact ⟨_,_,rfl,rfl,j1,j2⟩
          case round =>
            clear j1 j2
            obtain ⟨s,x,rfl,rfl,hj,hs⟩:=hrel
            obtain ⟨a1,a2,a3,a4,a5⟩:=id hj
            by_cases k1:s < 4503599627370496
            · have t1:(s:Int) < 4503599627370496:=by omega
              by_cases k2:-1074 < x
              · have q:=hj.dbl k1 k2
                have q2:2 * s < 9007199254740992:=by omega
                have f2:IntKind.u64.wrap ((s:Int) * 2) = ((2 * s:Nat):Int):=by rw [IntKind.wrap_u64];omega
                have f3:wrap64 (x - 1) = x - 1:=w64x _ (by omega) (by omega)
                have f4:(x - 1 + 1074).toNat < (x + 1074).toNat:=by omega
                have Q:Hid (MdI U (2 * s) (x - 1)∧2 * s < 9007199254740992):=⟨q,q2⟩
                clear a1 a2 a3 a4 a5 hj hs q q2 k1
                go_wp2
                exact ⟨⟨2 * s,x - 1,by first | rw [f2] | exact congrArg _ (by omega),by rw [f3],Q.out.1,Q.out.2⟩,by simp only [intOf,f3];exact f4⟩
              · obtain ⟨r1,r2⟩:=hj.low k1 (by omega)
                have HM:Hid (rgU 53 U = s):=r1
                have HM0:Hid (s≠0):=a1
                have hor:((s:Nat):Nat) ||| 9223372036854775808 = 9223372036854775808 + s:=by
                  have:=or_low s 1 63 (by rw [show (2:Nat) ^ 63 = 9223372036854775808 from by decide];omega)
                  rw [show 1 * 2 ^ 63 = 9223372036854775808 from by decide] at this
                  omega
                obtain ⟨m,hm⟩:∃ m,m = s:=⟨_,rfl⟩
                subst hm
                obtain ⟨Z,hZ⟩:∃ Z,Z = 9223372036854775808 + m:=⟨_,rfl⟩
                have fo:bits BinOp.or IntKind.u64 (m:Int) 9223372036854775808 = (Z:Int):=by
                  have:=u64_or_nat m 9223372036854775808 (by omega) (by decide)
                  rw [hor,← hZ] at this
                  exact this
                have HZ:Hid (mdW true m = Z):=by show _ = _;rw [hZ];unfold mdW;rw [if_neg HM0.out,if_pos rfl]
                have HN:Hid (mdW false m = m):=by show _ = _;unfold mdW;rw [if_neg HM0.out];rfl
                clear hZ
                have t1b:¬ (4503599627370496≤(m:Int)):=by omega
                clear a1 a2 a3 a4 a5 hj hs k1 r1 r2 hor
                by_cases cn:neg = true
                · subst cn
                  go_wp2
                  exact bodyPost_ret (v:=.int .u64 (Z:Int)) (by simp [results,Try.results75,go_sem]) rfl ⟨by rw [HM.out,HZ.out],rfl⟩
                · have cn2:neg = false:=by simpa using cn
                  subst cn2
                  clear cn
                  go_wp2
                  exact bodyPost_ret (v:=.int .u64 (m:Int)) (by simp [results,Try.results75,go_sem]) rfl ⟨by rw [HM.out,HN.out],rfl⟩
            · have t1:¬ ((s:Int) < 4503599627370496):=by omega
              have t1b:4503599627370496≤(s:Int):=by omega
              obtain ⟨r0,r1,r2,r3⟩:=hj.top (by omega) hs HB.out
              obtain ⟨m,hm⟩:∃ m,m = rgU 53 U:=⟨_,rfl⟩
              rw [← hm] at r1 r2 r3
              have HM:Hid (rgU 53 U = m):=hm.symm
              have HM0:Hid (m≠0):=r3
              have hor:m ||| 9223372036854775808 = 9223372036854775808 + m:=by
                have:=or_low m 1 63 (by rw [show (2:Nat) ^ 63 = 9223372036854775808 from by decide];omega)
                rw [show 1 * 2 ^ 63 = 9223372036854775808 from by decide] at this
                omega
              obtain ⟨Z,hZ⟩:∃ Z,Z = 9223372036854775808 + m:=⟨_,rfl⟩
              have fo:bits BinOp.or IntKind.u64 (m:Int) 9223372036854775808 = (Z:Int):=by
                have:=u64_or_nat m 9223372036854775808 (by omega) (by decide)
                rw [hor,← hZ] at this
                exact this
              have HZ:Hid (mdW true m = Z):=by show _ = _;rw [hZ];unfold mdW;rw [if_neg HM0.out,if_pos rfl]
              have HN:Hid (mdW false m = m):=by show _ = _;unfold mdW;rw [if_neg HM0.out];rfl
              clear hZ
              obtain ⟨y,hy⟩:∃ y:Nat,(y:Int) = x + 1075:=⟨(x + 1075).toNat,by omega⟩
              obtain ⟨z,hz⟩:∃ z:Nat,z = s - 4503599627370496:=⟨_,rfl⟩
              obtain ⟨y2,hy2⟩:∃ y2:Nat,y2 = y * 4503599627370496:=⟨_,rfl⟩
              rw [show (x + 1075).toNat = y from by omega,← hz,← hy2] at r1
              have f2:IntKind.u64.wrap ((s:Int) - 4503599627370496) = (z:Int):=by rw [IntKind.wrap_u64];omega
              have f3:wrap64 (x + 1075) = (y:Int):=by rw [← hy];exact w64x _ (by omega) (by omega)
              have f4:IntKind.u64.wrap (y:Int) = (y:Int):=by rw [IntKind.wrap_u64];omega
              have f5:IntKind.u64.wrap ((y:Int) * 4503599627370496) = (y2:Int):=by rw [IntKind.wrap_u64];omega
              have f6:IntKind.u64.wrap ((z:Int) + (y2:Int)) = (m:Int):=by rw [IntKind.wrap_u64];omega
              clear a1 a2 a3 a4 a5 hj hs k1 r0 r1 r2 r3 hor hm hy hz hy2
              by_cases cn:neg = true
              · subst cn
                go_wp2
                exact bodyPost_ret (v:=.int .u64 (Z:Int)) (by simp [results,Try.results75,go_sem]) rfl ⟨by rw [HM.out,HZ.out],rfl⟩
              · have cn2:neg = false:=by simpa using cn
                subst cn2
                clear cn
                go_wp2
                exact bodyPost_ret (v:=.int .u64 (m:Int)) (by simp [results,Try.results75,go_sem]) rfl ⟨by rw [HM.out,HN.out],rfl⟩
theorem greG (sig P x s G:Nat) (hb:blen sig = P) (h0:sig≠0) (hP:P≤53) (hs:s = min (53 - P) x) (hG:(x - s) * 4503599627370496 + sig * 2 ^ s = G) (hx:P + x≤2098):rgU 53 (sig * 2 ^ x) = G∧blen (sig * 2 ^ x)≤2098:=by
  have h:=rgU_mul 53 sig x s h0 (by rw [hb];exact hs) (by rw [hb];exact hP)
  rw [show (2:Nat) ^ (53 - 1) = 4503599627370496 from by decide,hG] at h
  exact ⟨h,by rw [blen_mul _ _ h0,hb];exact hx⟩
theorem rinf_ (neg:Bool) (w:World):Calls Try.prog 71 #[.bool neg] w fun e w'=>e = .returned (.int .u64 ((mdW neg 9218868437227405312:Nat):Int))∧w' = w:=by
  cases neg
  · rw [show ((mdW false 9218868437227405312:Nat):Int) = 9218868437227405312 from rfl]
    go_enter Try.func71,Try.ntmps71
    go_wp2
    exact bodyPost_ret (v:=.int .u64 9218868437227405312) (by simp [results,Try.results71,go_sem]) rfl ⟨rfl,rfl⟩
  · rw [show ((mdW true 9218868437227405312:Nat):Int) = 18442240474082181120 from rfl]
    go_enter Try.func71,Try.ntmps71
    go_wp2
    exact bodyPost_ret (v:=.int .u64 18442240474082181120) (by simp [results,Try.results71,go_sem]) rfl ⟨rfl,rfl⟩
theorem rgreD_ (neg:Bool) (w:World):Calls Try.prog 72 #[.bool neg,.int .i64 53,.int .i64 1023] w fun e w'=>e = .returned (.int .u64 ((mdW neg 9218868437227405311:Nat):Int))∧w' = w:=by
  obtain ⟨x,hx⟩:∃ x:Int,x = 971:=⟨_,rfl⟩
  have hg:=greG 9007199254740991 53 (x + 1074).toNat 0 9218868437227405311 (blen_uniq 9007199254740991 52 (by decide) (by decide)) (by decide) (by decide) (by omega) (by omega) (by omega)
  have hm:=made_ neg 9007199254740991 x w (by decide) (by omega) (by omega) hg.2
  rw [hg.1,hx] at hm
  obtain ⟨Z,hZ⟩:∃ Z,Z = mdW neg 9218868437227405311:=⟨_,rfl⟩
  rw [← hZ] at hm ⊢
  clear hZ
  have hm2:Calls Try.prog 75 #[.bool neg,.int .u64 9007199254740991,.int .i64 971] w fun e w'=>e = .returned (.int .u64 (Z:Int))∧w' = w:=hm
  clear hm
  go_enter Try.func72,Try.ntmps72
  go_wp2_with fail
  refine hm2.mono ?_;rintro e w' ⟨rfl,hw'⟩;obtain rfl:=hw'.symm;clear hm2
  go_wp2
  exact bodyPost_ret (v:=.int .u64 (Z:Int)) (by simp [results,Try.results72,go_sem]) rfl ⟨rfl,rfl⟩
theorem rsign_ (neg:Bool) (vn vd:Value) (n:Nat) (w:World) (hn:Ls w vn (dig n)) (l:blen n≤33554432) :
    Calls Try.prog 42 #[.agg #[.bool neg,vn,vd]] w fun e w'=>e = .returned (.int .i64 (if n = 0 then 0 else if neg then -1 else 1))∧Kp w w':=by
  obtain ⟨w0,hw0⟩:∃ w0,w0 = w.alloc (.cells #[.bool neg,vn,vd] 44):=⟨_,rfl⟩
  have hk0:Kp w w0:=by rw [hw0];exact (Kp.refl w).alloc _
  have c0:w0.cell? ⟨w.heap.size,0,none⟩ = some (.bool neg):=by rw [hw0];simp [go_sem]
  have hc:=normR vn (dig n) w0 (hn.kp hk0) (Wd_dig n) (dlen n 1048576 (by omega))
  rw [val_dig] at hc
  have hlz:=dig_len_zero n
  obtain ⟨M,hM⟩:∃ M,M = (dig n).length:=⟨_,rfl⟩
  have HM:Hid (M = (dig n).length):=hM
  rw [← hM] at hlz
  clear hn l hM
  by_cases cz:n = 0
  · have hM0:M = 0:=hlz.2 cz
    rw [if_pos cz]
    clear hlz cz
    go_enter Try.func42,Try.ntmps42
    go_wp2_with fail
    rw [← hw0]
    refine hc.mono ?_;rintro e w1 ⟨v1,rfl,⟨p1,c1,rfl,_,_⟩,hk⟩
    rw [← HM.out]
    subst hM0
    have K1:Kp w w1:=hk0.trans hk
    clear hc hk hw0 hk0 c0
    go_wp2
    exact bodyPost_ret (v:=.int .i64 0) (by simp [results,Try.results42,go_sem]) rfl ⟨rfl,K1⟩
  · have hM0:¬ ((M:Int) = 0):=by have:=mt hlz.1 cz;omega
    rw [if_neg cz]
    clear hlz cz
    go_enter Try.func42,Try.ntmps42
    go_wp2_with fail
    rw [← hw0]
    refine hc.mono ?_;rintro e w1 ⟨v1,rfl,⟨p1,c1,rfl,_,_⟩,hk⟩
    rw [← HM.out]
    have K1:Kp w w1:=hk0.trans hk
    have c1':=kkeep hk c0
    clear hc hk hw0 hk0 c0
    cases neg
    · go_wp2
      exact bodyPost_ret (v:=.int .i64 1) (by simp [results,Try.results42,go_sem]) rfl ⟨rfl,K1⟩
    · go_wp2
      exact bodyPost_ret (v:=.int .i64 (-1)) (by simp [results,Try.results42,go_sem]) rfl ⟨rfl,K1⟩
end Go.Proofs.Ytcepchaakfiojaa
