import Derived.Test.YtngglmnhjjlgkaaGreatDoorKXG
set_option maxHeartbeats 1000000
set_option maxRecDepth 20000
namespace Go.Proofs.YtngglmnhjjlgkaaGreatDoor
open Go.RowKit
theorem rsmall_ (v:Nat) (hv:v < 18446744073709551616) (w:World) :
  Calls Tryz.prog 102 #[.int .u64 (v:Int)] w fun e w'=>∃ r,e = .returned r∧Own w' w.heap.size r (dig v)∧Kp w w':=by
 have f0:=and32 v hv
 obtain ⟨lo,hlo⟩:∃ lo:Nat,lo = v % 4294967296:=⟨_,rfl⟩
 obtain ⟨hi,hhi⟩:∃ hi:Nat,hi = v / 4294967296:=⟨_,rfl⟩
 rw [← hlo] at f0
 have f1:IntKind.u32.wrap (lo:Int) = (lo:Int):=by rw [IntKind.wrap_u32];omega
 have f2:(v:Int) / 4294967296 = (hi:Int):=by omega
 have f3:IntKind.u32.wrap (hi:Int) = (hi:Int):=by rw [IntKind.wrap_u32];omega
 have hw:Wd [(lo:Int),(hi:Int)]:=Wd.mk (by omega) (Wd.mk (by omega) Wd.nil)
 have hval:val [(lo:Int),(hi:Int)] = v:=by simp [val];omega
 have hr:=row2 w (lo:Int) (hi:Int)
 have hk:Kp w (w.alloc (.cells #[.int .u32 (lo:Int),.int .u32 (hi:Int)] 107)):=(Kp.refl w).alloc _
 have hno:=rnorm_ (some ⟨w.heap.size,0,none⟩) 2 [(lo:Int),(hi:Int)] _ (by simpa using hr.arr 2 (Nat.le_refl _) (by simp)) (by simp)
 rw [nz_dig _ hw,hval] at hno
 obtain ⟨Z,hZ⟩:∃ Z,Z = dig v:=⟨_,rfl⟩
 rw [← hZ] at hno ⊢
 have hno2:Calls Tryz.prog 132 #[.slice (some ⟨w.heap.size,0,none⟩) 2 2] (w.alloc (.cells #[.int .u32 (lo:Int),.int .u32 (hi:Int)] 107)) fun e w'=>∃ v,e = .returned v∧Own w' (w.alloc (.cells #[.int .u32 (lo:Int),.int .u32 (hi:Int)] 107)).heap.size v Z∧Kp (w.alloc (.cells #[.int .u32 (lo:Int),.int .u32 (hi:Int)] 107)) w':=hno
 clear hno hZ hval hw hlo hhi hv hr
 go_enter Tryz.func102,Tryz.ntmps102
 go_wp2_with fail
 refine hno2.mono ?_;rintro e w1 ⟨r,rfl,hO,hk2⟩
 have hO2:=hO.mono hk.size
 have hk3:=hk.trans hk2
 clear hno2 hO hk hk2
 go_wp2
 exact bodyPost_ret (v:=r) (by simp [results,Tryz.results102,go_sem] <;> simp only [*]) rfl ⟨_,rfl,hO2,hk3⟩
theorem lowest_ (p:Option Addr) (c:Nat) (xs:List Int) (w:World) (hx:Arr w p xs) (hwx:Wd xs) (lx:xs.length≤2) :
  Calls Tryz.prog 173 #[.slice p xs.length c] w fun e w'=>e = .returned (.int .u64 (val xs:Nat))∧w' = w:=by
 obtain ⟨N,hN⟩:∃ N,N = xs.length:=⟨_,rfl⟩
 have HX:Hid (Arr w p xs∧Wd xs∧N = xs.length):=⟨hx,hwx,hN⟩
 have hmin:min (N:Int) 2 = (N:Int):=by omega
 have hN2:N≤2:=by omega
 rw [← hN]
 clear hx hwx lx hN
 go_enter Tryz.func173,Tryz.ntmps173
 go_wp2
 go_loop [3,8] (fun v i=>∃ k:Nat,i = .int .i64 k∧k≤N∧v = .int .u64 (val (xs.take k):Nat)) (fun _ i=>N - (intOf i).toNat)
 case atStart=>exact ⟨0,rfl,Nat.zero_le _,by simp [val]⟩
 case round =>
  obtain ⟨k,rfl,hk,rfl⟩:=hrel
  obtain ⟨hx,hwx,hN⟩:=HX.out
  by_cases ck:k < N
  ·obtain ⟨b,off,rfl,hc⟩:=hx.at (k:=k) (by omega)
   have e1:=hc k (by omega)
   have wx:=hwx k
   have hst:=val_take_succ xs k
   have hlt:=val_two xs hwx (by omega) (k + 1)
   have hlk:=val_take_lt xs hwx k
   obtain ⟨X,hX⟩:∃ X:Nat,(X:Int) = xs.getD k 0:=⟨(xs.getD k 0).toNat,by omega⟩
   rw [← hX] at e1 hst
   rw [Int.toNat_natCast] at hst
   obtain ⟨V,hV⟩:∃ V,V = val (xs.take k):=⟨_,rfl⟩
   obtain ⟨V',hV'⟩:∃ V',V' = val (xs.take (k + 1)):=⟨_,rfl⟩
   rw [← hV] at hst hlk ⊢
   rw [← hV'] at hst hlt
   have HG:Hid (V' = val (xs.take (k + 1))):=hV'
   have f0:IntKind.u64.wrap (X:Int) = (X:Int):=by rw [IntKind.wrap_u64];omega
   have i0:(0:Int)≤(k:Int):=by omega
   have i1:(k:Int) < (N:Int):=by omega
   have hX32:X < 4294967296:=by omega
   clear hx hwx hN hc wx hX hV hV' HX
   rcases (by omega:k = 0∨k = 1) with rfl | rfl
   ·have hV0:V = 0:=by simpa using hlk
    subst hV0
    have hX':V' = X:=by simpa using hst
    subst hX'
    have f2:bits BinOp.or IntKind.u64 0 (V':Int) = (V':Int):=by
     have:=bits_or_u64_nat 0 V' (by omega) (by omega)
     simpa using this
    rw [Nat.add_zero] at e1
    clear hst hlt hlk
    go_wp2
    exact ⟨⟨1,by go_num,by omega,by rw [← HG.out]⟩,by simp [intOf];omega⟩
   ·have f1:IntKind.u64.wrap ((X:Int) * 4294967296) = ((X * 4294967296:Nat):Int):=by rw [IntKind.wrap_u64];omega
    have hor:=or_low V X 32 (by simpa using hlk)
    have f2:=bits_or_u64_nat V (X * 4294967296) (by omega) (by omega)
    have e2:V ||| X * 4294967296 = V':=by
     have e3:V + X * 4294967296 = V':=by omega
     rw [← e3];exact hor
    rw [e2] at f2
    obtain ⟨Y,hY⟩:∃ Y:Nat,Y = X * 4294967296:=⟨_,rfl⟩
    rw [← hY] at f1 f2
    clear hst hlt hlk hor e2 hY
    go_wp2
    exact ⟨⟨2,by go_num,by omega,by rw [← HG.out]⟩,by simp [intOf];omega⟩
  ·have hkN:k = N:=by omega
   subst hkN
   rw [hN,List.take_length]
   obtain ⟨V,hV⟩:∃ V,V = val xs:=⟨_,rfl⟩
   rw [← hV]
   have i1:¬ ((k:Int) < (k:Int)):=by omega
   have HV:Hid (V = val xs):=hV
   clear HX hx hwx hN hV
   go_wp2
   exact bodyPost_ret (v:=.int .u64 (V:Int)) (by simp [results,Tryz.results173,go_sem] <;> simp only [*]) rfl ⟨by rw [HV.out],rfl⟩
theorem nword_ (p:Option Addr) (c:Nat) (xs:List Int) (w:World) (hx:Arr w p xs) (hwx:Wd xs) (lx:xs.length≤16777216) (hc:xs.length≤c) :
  Calls Tryz.prog 154 #[.slice p xs.length c] w fun e w'=>e = .returned (.tuple #[.int .u64 ((wordN (val xs)).1:Nat),.bool (wordN (val xs)).2])∧w' = w:=by
 have h1:=trim_ p c xs w hx (by omega) hc
 have e1:=tl_len xs hwx
 have h2:tl xs≤2→Calls Tryz.prog 173 #[.slice p (tl xs) c] w fun e w'=>e = .returned (.int .u64 (val xs:Nat))∧w' = w:=fun h=>by
  have:=lowest_ p c (nz xs) w (hx.take _) (hwx.take _) (by rw [nz_length];exact h)
  rw [nz_length,val_nz] at this
  exact this
 obtain ⟨a,ha⟩:∃ a,a = val xs:=⟨_,rfl⟩
 obtain ⟨N,hN⟩:∃ N,N = xs.length:=⟨_,rfl⟩
 obtain ⟨S,hS⟩:∃ S,S = tl xs:=⟨_,rfl⟩
 rw [← ha] at e1 h2 ⊢
 rw [← hN,← hS] at h1
 rw [← hS] at e1 h2
 rw [← hN]
 clear hx hwx lx hc ha hN hS
 by_cases cs:2 < S
 ·have e2:wordN a = (0,false):=by unfold wordN;rw [if_pos (by omega)]
  rw [e2]
  have t1:(2:Int) < (S:Int):=by omega
  clear h2 e1 e2 cs
  go_enter Tryz.func154,Tryz.ntmps154
  go_wp2_with fail
  refine h1.mono ?_;rintro e w' ⟨rfl,hw'⟩;obtain rfl:=hw'.symm
  go_wp2
  exact bodyPost_ret (v:=.tuple #[.int .u64 0,.bool false]) (by simp [results,Tryz.results154,go_sem] <;> simp only [*]) rfl ⟨rfl,rfl⟩
 ·have e2:wordN a = (a,true):=by unfold wordN;rw [if_neg (by omega)]
  rw [e2]
  have t1:¬ ((2:Int) < (S:Int)):=by omega
  have h3:=h2 (by omega)
  clear h2 e1 e2 cs
  go_enter Tryz.func154,Tryz.ntmps154
  go_wp2_with fail
  refine h1.mono ?_;rintro e w' ⟨rfl,hw'⟩;obtain rfl:=hw'.symm
  go_wp2_with fail
  refine h3.mono ?_;rintro e w' ⟨rfl,hw'⟩;obtain rfl:=hw'.symm
  go_wp2
  exact bodyPost_ret (v:=.tuple #[.int .u64 (a:Int),.bool true]) (by simp [results,Tryz.results154,go_sem] <;> simp only [*]) rfl ⟨rfl,rfl⟩
theorem rword_ (p:Option Addr) (c:Nat) (xs:List Int) (w:World) (hx:Arr w p xs) (hwx:Wd xs) (lx:xs.length≤16777216) :
  Calls Tryz.prog 99 #[.slice p xs.length c] w fun e w'=>e = .returned (.tuple #[.int .u64 ((wordN (val xs)).1:Nat),.bool (wordN (val xs)).2])∧w' = w:=by
 have h1:=words_ p c xs w hx (by omega)
 have e1:=tl_len xs hwx
 have lS:=tl_le xs
 have hv0:val ((nz xs).drop 0) = val xs:=by rw [List.drop_zero,val_nz]
 have hnl:=nz_length xs
 have hg:∀ k,k < tl xs→(nz xs).getD k 0 = xs.getD k 0:=fun k hk=>by unfold nz;simp [List.getD,hk]
 obtain ⟨zs,hzs⟩:∃ zs,zs = nz xs:=⟨_,rfl⟩
 have hwz:Wd zs:=by rw [hzs];exact hwx.take _
 rw [← hzs] at hv0 hnl hg
 obtain ⟨a,ha⟩:∃ a,a = val xs:=⟨_,rfl⟩
 obtain ⟨N,hN⟩:∃ N,N = xs.length:=⟨_,rfl⟩
 obtain ⟨S,hS⟩:∃ S,S = tl xs:=⟨_,rfl⟩
 rw [← ha] at e1 hv0 ⊢
 rw [← hN,← hS] at h1
 rw [← hS] at e1 hnl hg lS
 rw [← hN] at lS ⊢
 have HX:Hid (Arr w p xs∧Wd zs∧N = xs.length∧zs.length = S∧val (zs.drop 0) = a∧(∀ k,k < S→zs.getD k 0 = xs.getD k 0)):=⟨hx,hwz,hN,hnl,hv0,hg⟩
 clear hx hwx lx ha hN hS hzs hwz hnl hv0 hg
 by_cases cs:2 < S
 ·have e2:wordN a = (0,false):=by unfold wordN;rw [if_pos (by omega)]
  rw [e2]
  have t1:(2:Int) < (S:Int):=by omega
  clear e1 e2 cs HX lS
  go_enter Tryz.func99,Tryz.ntmps99
  go_wp2_with fail
  refine h1.mono ?_;rintro e w' ⟨rfl,hw'⟩;obtain rfl:=hw'.symm
  go_wp2
  exact bodyPost_ret (v:=.tuple #[.int .u64 0,.bool false]) (by simp [results,Tryz.results99,go_sem] <;> simp only [*]) rfl ⟨rfl,rfl⟩
 ·have e2:wordN a = (a,true):=by unfold wordN;rw [if_neg (by omega)]
  rw [e2]
  have t1:¬ ((2:Int) < (S:Int)):=by omega
  have hS2:S≤2:=by omega
  clear e1 e2 cs
  go_enter Tryz.func99,Tryz.ntmps99
  go_wp2_with fail
  refine h1.mono ?_;rintro e w' ⟨rfl,hw'⟩;obtain rfl:=hw'.symm
  clear h1
  go_wp2
  clear t1
  go_loop [5,6] (fun v i=>∃ (k:Nat) (z:Int),z = (k:Int) - 1∧i = .int .i64 z∧k≤S∧v = .int .u64 (val (zs.drop k):Nat)) (fun _ i=>(intOf i + 1).toNat)
  case atStart=>exact ⟨S,_,rfl,by go_num,Nat.le_refl _,by rw [List.drop_of_length_le (by have:=HX.out.2.2.2.1;omega)];rfl⟩
  case round =>
   obtain ⟨k,z,hz,rfl,hk,rfl⟩:=hrel
   obtain ⟨hx,hwz,hN,hnl,hv0,hg⟩:=HX.out
   rcases k with _ | k
   ·have hz0:z = -1:=by omega
    subst hz0
    rw [hv0]
    clear hz HX hx hwz hN hnl hv0 hg hk
    go_wp2
    exact bodyPost_ret (v:=.tuple #[.int .u64 (a:Int),.bool true]) (by simp [results,Tryz.results99,go_sem] <;> simp only [*]) rfl ⟨rfl,rfl⟩
   ·have hz0:z = (k:Int):=by omega
    subst hz0
    obtain ⟨b,off,rfl,hc⟩:=hx.at (k:=k) (by omega)
    have e1:=hc k (by omega)
    rw [← hg k (by omega)] at e1
    have wz:=hwz k
    have hd:=val_drop zs k (by omega)
    have hlt:val (zs.drop (k + 1)) < 4294967296:=by
     have h1:=val_lt (zs.drop (k + 1)) (fun j=>by
      have:=hwz (k + 1 + j)
      simpa [List.getD,List.getElem?_drop] using this)
     have h2:(zs.drop (k + 1)).length≤1:=by rw [List.length_drop];omega
     exact Nat.lt_of_lt_of_le h1 (Nat.le_trans (Nat.pow_le_pow_right (by omega) h2) (by decide))
    obtain ⟨X,hX⟩:∃ X:Nat,(X:Int) = zs.getD k 0:=⟨(zs.getD k 0).toNat,by omega⟩
    rw [← hX] at e1 hd
    rw [Int.toNat_natCast] at hd
    obtain ⟨V,hV⟩:∃ V,V = val (zs.drop (k + 1)):=⟨_,rfl⟩
    rw [← hV] at hd hlt ⊢
    have HG:Hid (val (zs.drop k) = X + 4294967296 * V):=hd
    have f0:IntKind.u64.wrap (X:Int) = (X:Int):=by rw [IntKind.wrap_u64];omega
    have f1:IntKind.u64.wrap ((V:Int) * 4294967296) = ((V * 4294967296:Nat):Int):=by rw [IntKind.wrap_u64];omega
    have hor:=or_low X V 32 (by omega)
    have f2:=bits_or_u64_nat (V * 4294967296) X (by omega) (by omega)
    have e2:V * 4294967296 ||| X = X + 4294967296 * V:=by
     rw [Nat.or_comm,Nat.mul_comm 4294967296];exact hor
    rw [e2] at f2
    obtain ⟨Y,hY⟩:∃ Y:Nat,Y = V * 4294967296:=⟨_,rfl⟩
    obtain ⟨T,hT⟩:∃ T:Nat,T = X + 4294967296 * V:=⟨_,rfl⟩
    rw [← hY] at f1 f2
    rw [← hT] at f2 HG
    have i0:(0:Int)≤(k:Int):=by omega
    have i1:(k:Int) < (N:Int):=by omega
    have hk2:k≤S:=by omega
    clear hz HX hx hwz hN hnl hv0 hg hc wz hd hX hV hor e2 hY hT hlt hk lS hS2
    go_wp2
    exact ⟨⟨k,_,rfl,by go_num,hk2,by rw [HG.out]⟩,by simp [intOf]⟩
theorem leftR (v:Value) (a m:Nat) (w:World) (h:Ls w v (dig a)) (l:blen a≤16777216) (hm:m≤16777216) :
  Calls Tryz.prog 95 #[v,.int .i64 (m:Int)] w fun e w'=>∃ v',e = .returned v'∧Ls w' v' (dig (a * 2 ^ m))∧Kp w w':=by
 obtain ⟨p,c,rfl,hA,hc⟩:=h
 have h:=rleft_ p c m (dig a) w hA (Wd_dig a) (Nat.le_trans (dlen a 524288 (by omega)) (by omega)) hm
 rw [val_dig] at h
 exact h.mono fun e w' ⟨v,h1,h2,h3⟩=>⟨v,h1,h2.ls,h3⟩
theorem cmpR (v1 v2:Value) (a b:Nat) (w:World) (h1:Ls w v1 (dig a)) (h2:Ls w v2 (dig b)) (l1:blen a≤33554432) (l2:blen b≤33554432) :
  Calls Tryz.prog 94 #[v1,v2] w fun e w'=>e = .returned (.int .i64 (cmpN a b))∧Kp w w':=by
 obtain ⟨p,c,rfl,hA,hc⟩:=h1
 obtain ⟨q,d,rfl,hB,hd⟩:=h2
 have e1:=dlen a 1048576 (by omega)
 have e2:=dlen b 1048576 (by omega)
 have h:=rcmp_ p q c d (dig a) (dig b) w hA hB (Wd_dig a) (Wd_dig b) (by omega) (by omega)
 rw [val_dig,val_dig] at h
 exact h
theorem lenR (v:Value) (a:Nat) (w:World) (h:Ls w v (dig a)) (l:blen a≤33554432) :
  Calls Tryz.prog 93 #[v] w fun e w'=>e = .returned (.int .i64 (blen a:Nat))∧w' = w:=by
 obtain ⟨p,c,rfl,hA,hc⟩:=h
 have e1:=dlen a 1048576 (by omega)
 have h:=rlen_ p c (dig a) w hA (Wd_dig a) (by omega)
 rw [val_dig] at h
 exact h
theorem normR (v:Value) (L:List Int) (w:World) (h:Ls w v L) (hw:Wd L) (l:L.length≤1048576) :
  Calls Tryz.prog 132 #[v] w fun e w'=>∃ v',e = .returned v'∧Ls w' v' (dig (val L))∧Kp w w':=by
 obtain ⟨p,c,rfl,hA,hc⟩:=h
 have h:=rnorm_ p c L w hA (by omega)
 rw [nz_dig L hw] at h
 exact h.mono fun e w' ⟨v,h1,h2,h3⟩=>⟨v,h1,h2.ls,h3⟩
theorem wordR (v:Value) (a:Nat) (w:World) (h:Ls w v (dig a)) (l:a < 18446744073709551616) :
  Calls Tryz.prog 99 #[v] w fun e w'=>e = .returned (.tuple #[.int .u64 (a:Int),.bool true])∧w' = w:=by
 obtain ⟨p,c,rfl,hA,hc⟩:=h
 have hl:len32 a≤2:=by
  by_cases c:len32 a≤2
  ·exact c
  ·exfalso
   have:=len32_lt a 2 (by omega)
   omega
 have hl2:(dig a).length≤2:=hl
 have h:=rword_ p c (dig a) w hA (Wd_dig a) (by omega)
 rw [val_dig] at h
 unfold wordN at h
 rw [if_neg (by omega)] at h
 exact h
theorem byR (v1 v2:Value) (a b:Nat) (w:World) (h1:Ls w v1 (dig a)) (h2:Ls w v2 (dig b)) (l1:blen a≤33554432) (l2:blen b≤8388608) (h0:0 < b) :
  Calls Tryz.prog 98 #[v1,v2] w fun e w'=>∃ q r,e = .returned (.tuple #[q,r])∧Ls w' q (dig (a / b))∧Ls w' r (dig (a % b))∧Kp w w':=by
 obtain ⟨p,c,rfl,hA,hc⟩:=h1
 obtain ⟨q,d,rfl,hB,hd⟩:=h2
 have e1:=dlen a 1048576 (by omega)
 have e2:=dlen b 262144 (by omega)
 have h:=rby_ p q c d (dig a) (dig b) w hA hB (Wd_dig a) (Wd_dig b) e1 (by omega) (by rw [tl_dig];exact e2) (by rw [val_dig];exact h0)
 rw [val_dig,val_dig] at h
 exact h.mono fun e w' ⟨v,he,⟨p1,c1,p2,c2,e2,o1,o2,_⟩,hk⟩=>⟨_,_,by rw [he,e2],o1.ls,o2.ls,hk⟩
theorem rtimes_ (p q:Option Addr) (c d:Nat) (xs ys:List Int) (w:World) (hx:Arr w p xs) (hy:Arr w q ys) (hwx:Wd xs) (hwy:Wd ys) (lx:xs.length≤16777216) (ly:ys.length≤16777216) :
  Calls Tryz.prog 116 #[.slice p xs.length c,.slice q ys.length d] w fun e w'=>∃ v,e = .returned v∧Own w' w.heap.size v (dig (val xs * val ys))∧Kp w w':=by
 have h1:=words_ p c xs w hx (by omega)
 have h2:=words_ q d ys w hy (by omega)
 have lS:=tl_le xs
 have lT:=tl_le ys
 have hvx:=val_tl xs
 have hvy:=val_tl ys
 obtain ⟨N,hN⟩:∃ N,N = xs.length:=⟨_,rfl⟩
 obtain ⟨M,hM⟩:∃ M,M = ys.length:=⟨_,rfl⟩
 obtain ⟨S,hS⟩:∃ S,S = tl xs:=⟨_,rfl⟩
 obtain ⟨T,hT⟩:∃ T,T = tl ys:=⟨_,rfl⟩
 rw [← hS] at h1 lS hvx
 rw [← hT] at h2 lT hvy
 have hmk:∀ w:World,(Instr.makeSlice 46 (.int .i64 ((S:Int) + (T:Int))) (.int .i64 ((S:Int) + (T:Int)))).run Tryz.prog w = .ok (.slice (some ⟨w.heap.size,0,none⟩) (S + T) (S + T)) (w.alloc (.cells (madeCells #[.int .u32 0] (S + T)) 107)):=by
  have:=mk32 (S + T) (by omega)
  simpa using this
 have hk1:Kp w (w.alloc (.cells (madeCells #[.int .u32 0] (S + T)) 107)):=(Kp.refl w).alloc _
 have hrz:Rw (w.alloc (.cells (madeCells #[.int .u32 0] (S + T)) 107)) w.heap.size (S + T) (List.replicate (S + T) 0):=World.rowIs.congr (World.rowIs_made w (.int .u32 0) (S + T) 107) (fun j _=>by rw [rep0_getD])
 obtain ⟨zs0,hz0⟩:∃ zs0,zs0 = List.replicate (S + T) (0:Int):=⟨_,rfl⟩
 have hzl0:zs0.length = S + T:=by rw [hz0];simp
 have hwz0:Wd zs0:=by rw [hz0];exact Wd_rep0 _
 have hzz0:∀ j,zs0.getD j 0 = 0:=fun j=>by rw [hz0];exact rep0_getD _ _
 have hvz0:=val_zeros zs0 hzz0
 rw [← hz0] at hrz
 have HX:Hid (Arr w p xs∧Wd xs∧val (xs.take S) = val xs):=⟨hx,hwx,hvx⟩
 have HY:Hid (Arr w q ys∧Wd ys∧val (ys.take T) = val ys):=⟨hy,hwy,hvy⟩
 have HN:Hid (N = xs.length∧M = ys.length):=⟨hN,hM⟩
 obtain ⟨g,hg⟩:∃ g,g = w.heap.size:=⟨_,rfl⟩
 rw [← hg] at hrz
 have HG:Hid (g = w.heap.size):=hg
 rw [← hN] at lx h1 lS ⊢
 rw [← hM] at ly h2 lT ⊢
 clear hx hy hwx hwy hN hM hz0 hS hT hvx hvy
 go_enter Tryz.func116,Tryz.ntmps116
 go_wp2_with fail
 refine h1.mono ?_;rintro e w' ⟨rfl,hw'⟩;obtain rfl:=hw'.symm
 go_wp2_with fail
 refine h2.mono ?_;rintro e w' ⟨rfl,hw'⟩;obtain rfl:=hw'.symm
 go_wp2
 rw [← hg]
 clear hmk hg h1 h2
 go_loopw [8] (fun i wr=>∃ (k:Nat) (zs:List Int),i = .int .i64 k∧k≤T∧Rw wr g (S + T) zs∧zs.length = S + T∧Wd zs∧val zs = val (ys.take k) * val xs∧(∀ j,k + S≤j→zs.getD j 0 = 0)∧Kp w wr) (fun i _=>T - (intOf i).toNat)
 case atStart=>exact ⟨0,zs0,rfl,Nat.zero_le _,hrz,hzl0,hwz0,by rw [hvz0];simp [val],fun j _=>hzz0 j,hk1⟩
 case round =>
  clear hrz hzl0 hwz0 hzz0 hvz0 hk1
  obtain ⟨k,zs,rfl,hk,hrow,hzl,hwz,hv,hzz,hkp⟩:=hrel
  obtain ⟨hN,hM⟩:=HN.out
  by_cases ck:k < T
  ·obtain ⟨b,off,rfl,hc⟩:=HY.out.1.at (k:=k) (by omega)
   have e0:=hc k (by omega)
   have e1:=kkeep hkp e0
   have wy:=HY.out.2.1 k
   have hrp:=row_prod ys k (val xs)
   obtain ⟨Y,hY⟩:∃ Y:Nat,(Y:Int) = ys.getD k 0:=⟨(ys.getD k 0).toNat,by omega⟩
   rw [← hY] at e1 wy hrp
   rw [Int.toNat_natCast] at hrp
   have i0:(0:Int)≤(k:Int):=by omega
   have i1:(k:Int) < (T:Int):=by omega
   have i1':(k:Int) < (M:Int):=by omega
   by_cases cY:Y = 0
   ·subst cY
    have hv2:val zs = val (ys.take (k + 1)) * val xs:=by rw [← hrp,hv];simp
    have t1:(((0:Nat):Int) == 0) = true:=by simp
    clear hc e0 HX HY HN HG hN hM hY wy hrp hv
    go_wp2
    exact ⟨⟨k + 1,zs,by go_num,by omega,hrow,hzl,hwz,hv2,fun j hj=>hzz j (by omega),hkp⟩,by simp [intOf];omega⟩
   ·have t1:((Y:Int) == 0) = false:=by simp;omega
    have fY:IntKind.u64.wrap (Y:Int) = (Y:Int):=by rw [IntKind.wrap_u64];omega
    have hY32:Y < 4294967296:=by omega
    have HV:Hid (val zs + val xs * Y * 4294967296 ^ k = val (ys.take (k + 1)) * val xs∧(∀ j,k + S≤j→zs.getD j 0 = 0)):=⟨by rw [hv];exact hrp,hzz⟩
    clear hc e0 HY hN hM hY wy hrp hv hzz
    go_wp2
    clear t1 fY
    go_loopw [10,11] (fun cc ii wq=>∃ (m C:Nat) (us:List Int),cc = .int .u64 (C:Int)∧ii = .int .i64 m∧m≤S∧Rw wq g (S + T) us∧us.length = S + T∧Wd us∧C < 4294967296∧val us + C * 4294967296 ^ (k + m) = val zs + val (xs.take m) * Y * 4294967296 ^ k∧(∀ j,k + m≤j→us.getD j 0 = zs.getD j 0)∧Kp w wq) (fun _ i _=>S - (intOf i).toNat)
    case atStart=>exact ⟨0,0,zs,rfl,rfl,Nat.zero_le _,hrow,hzl,hwz,by omega,by simp [val],fun j _=>rfl,hkp⟩
    case round =>
     clear hrow hwz hkp e1
     obtain ⟨m,C,us,rfl,rfl,hm,hrow,hul,hwu,hC,hv,hsam,hkp⟩:=hrel
     obtain ⟨hN,hM⟩:=HN.out
     by_cases cm:m < S
     ·obtain ⟨b',off',rfl,hc'⟩:=HX.out.1.at (k:=m) (by omega)
      have e2:=kkeep hkp (hc' m (by omega))
      have e1:=World.rowIs.cell hrow (i:=m + k) (by omega)
      have wx:=HX.out.2.1 m
      have wz:=hwu (m + k)
      obtain ⟨X,hX⟩:∃ X:Nat,(X:Int) = xs.getD m 0:=⟨(xs.getD m 0).toNat,by omega⟩
      obtain ⟨Z0,hZ0⟩:∃ Z0:Nat,(Z0:Int) = us.getD (m + k) 0:=⟨(us.getD (m + k) 0).toNat,by omega⟩
      rw [← hX] at e2
      rw [← hZ0] at e1
      have hmw:=mul_word X Y C Z0 (by omega) hY32 hC (by omega)
      obtain ⟨P,hP⟩:∃ P,P = X * Y:=⟨_,rfl⟩
      rw [← hP] at hmw
      obtain ⟨Q,hQ⟩:∃ Q:Nat,Q = (Z0:Int).toNat + ((P:Nat):Int).toNat + C:=⟨_,rfl⟩
      rw [Nat.add_comm m k] at hZ0
      have hst:=sum_step us (k + m) C Q _ (Z0:Int) (P:Int) (by omega) hZ0.symm hQ hv
      simp only [Int.toNat_natCast] at hQ hst
      have hg2:=mul_grow xs Y k m
      rw [← hX,Int.toNat_natCast,← hP] at hg2
      rw [Nat.add_assoc (val zs),← hg2,Nat.add_assoc k m 1] at hst
      have f1:IntKind.u64.wrap (X:Int) = (X:Int):=by rw [IntKind.wrap_u64];omega
      have f2:IntKind.u64.wrap ((X:Int) * (Y:Int)) = (P:Int):=by
       have:(X:Int) * (Y:Int) = (P:Int):=by rw [hP];exact (Int.natCast_mul X Y).symm
       rw [this,IntKind.wrap_u64];omega
      have f3:IntKind.u64.wrap (Z0:Int) = (Z0:Int):=by rw [IntKind.wrap_u64];omega
      have f4:IntKind.u64.wrap ((C:Int) + (Z0:Int)) = (C:Int) + (Z0:Int):=by rw [IntKind.wrap_u64];omega
      have f5:IntKind.u64.wrap ((C:Int) + (Z0:Int) + (P:Int)) = (Q:Int):=by rw [IntKind.wrap_u64];omega
      have f8:=and32 Q (by omega)
      obtain ⟨Z,hZ⟩:∃ Z:Nat,Z = Q % 4294967296:=⟨_,rfl⟩
      obtain ⟨C',hC2⟩:∃ C':Nat,C' = Q / 4294967296:=⟨_,rfl⟩
      rw [← hZ] at f8
      have f6:IntKind.u32.wrap (Z:Int) = (Z:Int):=by rw [IntKind.wrap_u32];omega
      have f7:(Q:Int) / 4294967296 = (C':Int):=by omega
      rw [← hZ,← hC2] at hst
      have hC':C' < 4294967296:=by omega
      have hw2:Wd (us.set (m + k) (Z:Int)):=hwu.set (m + k) Z (by omega)
      have hl2:(us.set (m + k) (Z:Int)).length = S + T:=by rw [List.length_set];exact hul
      have hsam2:∀ j,k + (m + 1)≤j→(us.set (m + k) (Z:Int)).getD j 0 = zs.getD j 0:=fun j h1=>by
       rw [← hsam j (by omega)];simp [List.getD,show ¬ m + k = j from by omega]
      have ekm:k + m = m + k:=Nat.add_comm k m
      rw [ekm] at hst
      clear ekm
      have hik:m + k < us.length:=by omega
      have hik2:m + k < S + T:=by omega
      have j0:(0:Int)≤(m:Int):=by omega
      have j1:(m:Int) < (S:Int):=by omega
      have j2:(m:Int) < (N:Int):=by omega
      have j3:(0:Int)≤(m:Int) + (k:Int):=by omega
      have j4:(m:Int) + (k:Int) < (S:Int) + (T:Int):=by omega
      have hgw:w.heap.size≤g:=by rw [HG.out];exact Nat.le_refl _
      clear hc' HX HN HG hN hM hX hZ0 hZ hC2 hQ hv hP hg2 wx wz hwu hC hsam hul hmw HV hzl
      go_wp2
      refine wp_region_kp (by kernel_rfl) (by kernel_rfl) (fun ι _ G hG hall=>?_)
      have c0:∀ n,(G n).cell? ⟨g,m + k,none⟩ = some (.int .u32 (Z0:Int)):=fun n=>kkeep (hG n) e1
      have c1:∀ n,(G n).cell? ⟨b',off' + m,none⟩ = some (.int .u32 (X:Int)):=fun n=>kkeep (hG n) e2
      repeat (go_big_quiet_step (fail))
      refine wpQuiet_nil ?_
      rintro _ ⟨nq,rfl⟩
      have gq:=hG nq
      replace hrow:=hrow.grown gq
      have e3:=World.rowIs.cell hrow (i:=m + k) hik2
      have e4:=World.rowIs.frozen hrow (m + k)
      have hR:=hrow.set (m + k) (Z:Int) hik
      have hK:=(hkp.trans gq).setCell (p:=⟨g,m + k,none⟩) hgw (.int .u32 (Z:Int))
      clear c0 c1 hall hG gq e1 e2 hrow hkp
      go_wp2
      exact ⟨⟨m + 1,C',us.set (m + k) (Z:Int),by go_num,by go_num,by omega,hR,hl2,hw2,hC',hst,hsam2,hK⟩,by simp [intOf];omega⟩
     ·have hmS:m = S:=by omega
      subst hmS
      have hvx:=HX.out.2.2
      rw [hvx] at hv
      obtain ⟨hV1,hV2⟩:=HV.out
      have hu0:us.getD (k + m) 0 = 0:=by rw [hsam _ (Nat.le_refl _)];exact hV2 _ (Nat.le_refl _)
      have hvs:=val_set us (k + m) (C:Int) (by omega)
      rw [hu0,Int.toNat_natCast,hv,hV1] at hvs
      have hv3:val (us.set (k + m) (C:Int)) = val (ys.take (k + 1)) * val xs:=by simpa using hvs
      have hgw:w.heap.size≤g:=by rw [HG.out];exact Nat.le_refl _
      have hR:=hrow.set (k + m) (C:Int) (by omega)
      have hK:Kp w (wr.setCell ⟨g,k + m,none⟩ (.int .u32 (C:Int))):=hkp.setCell hgw _
      have hw3:Wd (us.set (k + m) (C:Int)):=hwu.set _ _ (by omega)
      have hl3:(us.set (k + m) (C:Int)).length = m + T:=by rw [List.length_set];exact hul
      have hz3:∀ j,k + 1 + m≤j→(us.set (k + m) (C:Int)).getD j 0 = 0:=fun j hj=>by
       have e1:(us.set (k + m) (C:Int)).getD j 0 = us.getD j 0:=by simp [List.getD,show ¬ k + m = j from by omega]
       rw [e1,hsam j (by omega)]
       exact hV2 j (by omega)
      have e3:=World.rowIs.cell hrow (i:=k + m) (by omega)
      have e4:=World.rowIs.frozen hrow (k + m)
      have f6:IntKind.u32.wrap (C:Int) = (C:Int):=by rw [IntKind.wrap_u32];omega
      have i2:¬ ((m:Int) < (m:Int)):=by omega
      have j3:(0:Int)≤(k:Int) + (m:Int):=by omega
      have j4:(k:Int) + (m:Int) < (m:Int) + (T:Int):=by omega
      clear HX HN HG hN hM hv hvs hsam hkp hrow HV hV1 hV2 hvx hwu hul hu0 hC cm hm hzl
      go_wp2
      exact ⟨⟨k + 1,us.set (k + m) (C:Int),by go_num,by omega,hR,hl3,hw3,hv3,hz3,hK⟩,by simp [intOf];omega⟩
  ·have hkN:k = T:=by omega
   subst hkN
   have hvy:=HY.out.2.2
   rw [hvy] at hv
   have hA:=hrow.arr (S + k) (Nat.le_refl _) (by omega)
   rw [List.take_of_length_le (by omega)] at hA
   have hno:=rnorm_ (some ⟨g,0,none⟩) (S + k) zs wr hA (by omega)
   rw [nz_dig zs hwz,hv,hzl,Nat.mul_comm] at hno
   have hsz:=hkp.size
   have i2:¬ ((k:Int) < (k:Int)):=by omega
   clear hA hrow hzl hwz hv HX HY HN HG hN hM hzz hvy hk ck
   go_wp2_with fail
   refine hno.mono ?_
   rintro e w2 ⟨v2,rfl,hO2,hk2⟩
   clear hno
   go_wp2
   exact bodyPost_ret (v:=v2) (by simp [results,Tryz.results116,go_sem] <;> simp only [*]) rfl ⟨v2,rfl,hO2.mono hsz,hkp.trans hk2⟩
end Go.Proofs.YtngglmnhjjlgkaaGreatDoor
