import Derived.Test.YtmpjcknaelgnoaaGreatDoorKBY
set_option maxHeartbeats 1000000
set_option maxRecDepth 20000
namespace Go.Proofs.YtmpjcknaelgnoaaGreatDoor
open Go.RowKit
theorem row2 (w:World) (x y:Int):Rw (w.alloc (.cells #[.int .u32 x,.int .u32 y] 120)) w.heap.size 2 [x,y]:=by
 have:=World.rowIs_alloc w #[.int .u32 x,.int .u32 y] 120 (fun i=>.int .u32 ([x,y].getD i 0)) (fun i hi=>by
  have h:i=0∨i=1:=by simp at hi;omega
  rcases h with rfl | rfl <;> rfl)
 exact this
theorem row1 (w:World) (x:Int):Rw (w.alloc (.cells #[.int .u32 x] 120)) w.heap.size 1 [x]:=by
 have:=World.rowIs_alloc w #[.int .u32 x] 120 (fun i=>.int .u32 ([x].getD i 0)) (fun i hi=>by
  have h:i=0:=by simp at hi;omega
  rcases h with rfl;rfl)
 exact this
theorem own1 (w:World):Own (w.alloc (.cells #[.int .u32 1] 120)) w.heap.size (.slice (some ⟨w.heap.size,0,none⟩) 1 1) [1] :=
 Own.of_row (row1 w 1) (Nat.le_refl _) (Nat.le_refl _) rfl (by unfold maxLen;omega)
theorem nsmall_ (v:Nat) (hv:v<18446744073709551616) (w:World) :
  Calls Tryz.prog 209 #[.int .u64 (v:Int)] w fun e w'=>∃ r,e=.returned r∧Own w' w.heap.size r (dig v)∧Kp w w':=by
 obtain ⟨lo,hlo⟩:∃ lo:Nat,lo=v % 4294967296:=⟨_,rfl⟩
 obtain ⟨hi,hhi⟩:∃ hi:Nat,hi=v / 4294967296:=⟨_,rfl⟩
 have f1:IntKind.u32.wrap (v:Int)=(lo:Int):=by rw [IntKind.wrap_u32];omega
 have f2:(v:Int) / 4294967296=(hi:Int):=by omega
 have f3:IntKind.u32.wrap (hi:Int)=(hi:Int):=by rw [IntKind.wrap_u32];omega
 have hw:Wd [(lo:Int),(hi:Int)]:=Wd.mk (by omega) (Wd.mk (by omega) Wd.nil)
 have hval:val [(lo:Int),(hi:Int)]=v:=by simp [val];omega
 have hr:=row2 w (lo:Int) (hi:Int)
 have htr:=trim_ (some ⟨w.heap.size,0,none⟩) 2 [(lo:Int),(hi:Int)] _ (by simpa using hr.arr 2 (Nat.le_refl _) (by simp)) (by simp) (by simp)
 have hO:Own (w.alloc (.cells #[.int .u32 (lo:Int),.int .u32 (hi:Int)] 120)) w.heap.size (.slice (some ⟨w.heap.size,0,none⟩) (tl [(lo:Int),(hi:Int)]) 2) (dig v):=by
  have h1:=Own.of_row (base:=w.heap.size) (k:=tl [(lo:Int),(hi:Int)]) hr (Nat.le_refl _) (tl_le _) rfl (by unfold maxLen;omega)
  have h2:[(lo:Int),(hi:Int)].take (tl [(lo:Int),(hi:Int)])=dig v:=by rw [← hval,← nz_dig _ hw];rfl
  rw [h2] at h1
  exact h1
 have hk:Kp w (w.alloc (.cells #[.int .u32 (lo:Int),.int .u32 (hi:Int)] 120)):=(Kp.refl w).alloc _
 obtain ⟨T,hT⟩:∃ T,T=tl [(lo:Int),(hi:Int)]:=⟨_,rfl⟩
 rw [← hT] at htr hO
 have htr2:Calls Tryz.prog 241 #[.slice (some ⟨w.heap.size,0,none⟩) 2 2] (w.alloc (.cells #[.int .u32 (lo:Int),.int .u32 (hi:Int)] 120)) fun e w'=>e=.returned (.slice (some ⟨w.heap.size,0,none⟩) T 2)∧w'=w.alloc (.cells #[.int .u32 (lo:Int),.int .u32 (hi:Int)] 120):=htr
 clear htr hT hval hw hlo hhi hv hr
 go_enter Tryz.func209,Tryz.ntmps209
 go_wp2_with fail
 refine htr2.mono ?_;rintro e w' ⟨rfl,hw'⟩;subst hw'
 clear htr2
 go_wp2
 exact BR (v:=.slice (some ⟨w.heap.size,0,none⟩) T 2) (by simp [results,Tryz.results209,go_sem] <;> simp only [*]) rfl ⟨_,rfl,hO,hk⟩
theorem rsmall_ (v:Nat) (hv:v<18446744073709551616) (w:World) :
  Calls Tryz.prog 158 #[.int .u64 (v:Int)] w fun e w'=>∃ r,e=.returned r∧Own w' w.heap.size r (dig v)∧Kp w w':=by
 have f0:=and32 v hv
 obtain ⟨lo,hlo⟩:∃ lo:Nat,lo=v % 4294967296:=⟨_,rfl⟩
 obtain ⟨hi,hhi⟩:∃ hi:Nat,hi=v / 4294967296:=⟨_,rfl⟩
 rw [← hlo] at f0
 have f1:IntKind.u32.wrap (lo:Int)=(lo:Int):=by rw [IntKind.wrap_u32];omega
 have f2:(v:Int) / 4294967296=(hi:Int):=by omega
 have f3:IntKind.u32.wrap (hi:Int)=(hi:Int):=by rw [IntKind.wrap_u32];omega
 have hw:Wd [(lo:Int),(hi:Int)]:=Wd.mk (by omega) (Wd.mk (by omega) Wd.nil)
 have hval:val [(lo:Int),(hi:Int)]=v:=by simp [val];omega
 have hr:=row2 w (lo:Int) (hi:Int)
 have hk:Kp w (w.alloc (.cells #[.int .u32 (lo:Int),.int .u32 (hi:Int)] 120)):=(Kp.refl w).alloc _
 have hno:=rnorm_ (some ⟨w.heap.size,0,none⟩) 2 [(lo:Int),(hi:Int)] _ (by simpa using hr.arr 2 (Nat.le_refl _) (by simp)) (by simp)
 rw [nz_dig _ hw,hval] at hno
 obtain ⟨Z,hZ⟩:∃ Z,Z=dig v:=⟨_,rfl⟩
 rw [← hZ] at hno ⊢
 have hno2:Calls Tryz.prog 130 #[.slice (some ⟨w.heap.size,0,none⟩) 2 2] (w.alloc (.cells #[.int .u32 (lo:Int),.int .u32 (hi:Int)] 120)) fun e w'=>∃ v,e=.returned v∧Own w' (w.alloc (.cells #[.int .u32 (lo:Int),.int .u32 (hi:Int)] 120)).heap.size v Z∧Kp (w.alloc (.cells #[.int .u32 (lo:Int),.int .u32 (hi:Int)] 120)) w':=hno
 clear hno hZ hval hw hlo hhi hv hr
 go_enter Tryz.func158,Tryz.ntmps158
 go_wp2_with fail
 refine hno2.mono ?_;rintro e w1 ⟨r,rfl,hO,hk2⟩
 have hO2:=hO.mono hk.size
 have hk3:=hk.trans hk2
 clear hno2 hO hk hk2
 go_wp2
 exact BR (v:=r) (by simp [results,Tryz.results158,go_sem] <;> simp only [*]) rfl ⟨_,rfl,hO2,hk3⟩
theorem lowest_ (p:Option Addr) (c:Nat) (xs:List Int) (w:World) (hx:Arr w p xs) (hwx:Wd xs) (lx:xs.length≤2) :
  Calls Tryz.prog 274 #[.slice p xs.length c] w fun e w'=>e=.returned (.int .u64 (val xs:Nat))∧w'=w:=by
 obtain ⟨N,hN⟩:∃ N,N=xs.length:=⟨_,rfl⟩
 have HX:Hid (Arr w p xs∧Wd xs∧N=xs.length):=⟨hx,hwx,hN⟩
 have hmin:min (N:Int) 2=(N:Int):=by omega
 have hN2:N≤2:=by omega
 rw [← hN]
 clear hx hwx lx hN
 go_enter Tryz.func274,Tryz.ntmps274
 go_wp2
 go_loop [3,8] (fun v i=>∃ k:Nat,i=.int .i64 k∧k≤N∧v=.int .u64 (val (xs.take k):Nat)) (fun _ i=>N - (intOf i).toNat)
 case atStart=>exact ⟨0,rfl,Nat.zero_le _,by simp [val]⟩
 case round =>
  obtain ⟨k,rfl,hk,rfl⟩:=hrel
  obtain ⟨hx,hwx,hN⟩:=HX.out
  by_cases ck:k<N
  ·obtain ⟨b,off,rfl,hc⟩:=hx.at (k:=k) (by omega)
   have e1:=hc k (by omega)
   have wx:=hwx k
   have hst:=val_take_succ xs k
   have hlt:=val_two xs hwx (by omega) (k+1)
   have hlk:=val_take_lt xs hwx k
   obtain ⟨X,hX⟩:∃ X:Nat,(X:Int)=xs.getD k 0:=⟨(xs.getD k 0).toNat,by omega⟩
   rw [← hX] at e1 hst
   rw [Int.toNat_natCast] at hst
   obtain ⟨V,hV⟩:∃ V,V=val (xs.take k):=⟨_,rfl⟩
   obtain ⟨V',hV'⟩:∃ V',V'=val (xs.take (k+1)):=⟨_,rfl⟩
   rw [← hV] at hst hlk ⊢
   rw [← hV'] at hst hlt
   have HG:Hid (V'=val (xs.take (k+1))):=hV'
   have f0:IntKind.u64.wrap (X:Int)=(X:Int):=by rw [IntKind.wrap_u64];omega
   have i0:(0:Int)≤(k:Int):=by omega
   have i1:(k:Int)<(N:Int):=by omega
   have hX32:X<4294967296:=by omega
   clear hx hwx hN hc wx hX hV hV' HX
   rcases (by omega:k=0∨k=1) with rfl | rfl
   ·have hV0:V=0:=by simpa using hlk
    subst hV0
    have hX':V'=X:=by simpa using hst
    subst hX'
    have f2:bits BinOp.or IntKind.u64 0 (V':Int)=(V':Int):=by
     have:=bits_or_u64_nat 0 V' (by omega) (by omega)
     simpa using this
    rw [Nat.add_zero] at e1
    clear hst hlt hlk
    go_wp2
    exact ⟨⟨1,by go_num,by omega,by rw [← HG.out]⟩,by simp [intOf];omega⟩
   ·have f1:IntKind.u64.wrap ((X:Int)*4294967296)=((X*4294967296:Nat):Int):=by rw [IntKind.wrap_u64];omega
    have hor:=or_low V X 32 (by simpa using hlk)
    have f2:=bits_or_u64_nat V (X*4294967296) (by omega) (by omega)
    have e2:V ||| X*4294967296=V':=by
     have e3:V+X*4294967296=V':=by omega
     rw [← e3];exact hor
    rw [e2] at f2
    obtain ⟨Y,hY⟩:∃ Y:Nat,Y=X*4294967296:=⟨_,rfl⟩
    rw [← hY] at f1 f2
    clear hst hlt hlk hor e2 hY
    go_wp2
    exact ⟨⟨2,by go_num,by omega,by rw [← HG.out]⟩,by simp [intOf];omega⟩
  ·have hkN:k=N:=by omega
   subst hkN
   rw [hN,List.take_length]
   obtain ⟨V,hV⟩:∃ V,V=val xs:=⟨_,rfl⟩
   rw [← hV]
   have i1:¬ ((k:Int)<(k:Int)):=by omega
   have HV:Hid (V=val xs):=hV
   clear HX hx hwx hN hV
   go_wp2
   exact BR (v:=.int .u64 (V:Int)) (by simp [results,Tryz.results274,go_sem] <;> simp only [*]) rfl ⟨by rw [HV.out],rfl⟩
theorem nword_ (p:Option Addr) (c:Nat) (xs:List Int) (w:World) (hx:Arr w p xs) (hwx:Wd xs) (lx:xs.length≤16777216) (hc:xs.length≤c) :
  Calls Tryz.prog 254 #[.slice p xs.length c] w fun e w'=>e=.returned (.tuple #[.int .u64 ((wordN (val xs)).1:Nat),.bool (wordN (val xs)).2])∧w'=w:=by
 have h1:=trim_ p c xs w hx (by omega) hc
 have e1:=tl_len xs hwx
 have h2:tl xs≤2→Calls Tryz.prog 274 #[.slice p (tl xs) c] w fun e w'=>e=.returned (.int .u64 (val xs:Nat))∧w'=w:=fun h=>by
  have:=lowest_ p c (nz xs) w (hx.take _) (hwx.take _) (by rw [nz_length];exact h)
  rw [nz_length,val_nz] at this
  exact this
 obtain ⟨a,ha⟩:∃ a,a=val xs:=⟨_,rfl⟩
 obtain ⟨N,hN⟩:∃ N,N=xs.length:=⟨_,rfl⟩
 obtain ⟨S,hS⟩:∃ S,S=tl xs:=⟨_,rfl⟩
 rw [← ha] at e1 h2 ⊢
 rw [← hN,← hS] at h1
 rw [← hS] at e1 h2
 rw [← hN]
 clear hx hwx lx hc ha hN hS
 by_cases cs:2<S
 ·have e2:wordN a=(0,false):=by unfold wordN;rw [if_pos (by omega)]
  rw [e2]
  have t1:(2:Int)<(S:Int):=by omega
  clear h2 e1 e2 cs
  go_enter Tryz.func254,Tryz.ntmps254
  go_wp2_with fail
  refine SM h1 ?_
  go_wp2
  exact BR (v:=.tuple #[.int .u64 0,.bool false]) (by simp [results,Tryz.results254,go_sem] <;> simp only [*]) rfl ⟨rfl,rfl⟩
 ·have e2:wordN a=(a,true):=by unfold wordN;rw [if_neg (by omega)]
  rw [e2]
  have t1:¬ ((2:Int)<(S:Int)):=by omega
  have h3:=h2 (by omega)
  clear h2 e1 e2 cs
  go_enter Tryz.func254,Tryz.ntmps254
  go_wp2_with fail
  refine SM h1 ?_
  go_wp2_with fail
  refine SM h3 ?_
  go_wp2
  exact BR (v:=.tuple #[.int .u64 (a:Int),.bool true]) (by simp [results,Tryz.results254,go_sem] <;> simp only [*]) rfl ⟨rfl,rfl⟩
theorem rword_ (p:Option Addr) (c:Nat) (xs:List Int) (w:World) (hx:Arr w p xs) (hwx:Wd xs) (lx:xs.length≤16777216) :
  Calls Tryz.prog 220 #[.slice p xs.length c] w fun e w'=>e=.returned (.tuple #[.int .u64 ((wordN (val xs)).1:Nat),.bool (wordN (val xs)).2])∧w'=w:=by
 have h1:=words_ p c xs w hx (by omega)
 have e1:=tl_len xs hwx
 have lS:=tl_le xs
 have hv0:val ((nz xs).drop 0)=val xs:=by rw [List.drop_zero,val_nz]
 have hnl:=nz_length xs
 have hg:∀ k,k<tl xs→(nz xs).getD k 0=xs.getD k 0:=fun k hk=>by unfold nz;simp [List.getD,hk]
 obtain ⟨zs,hzs⟩:∃ zs,zs=nz xs:=⟨_,rfl⟩
 have hwz:Wd zs:=by rw [hzs];exact hwx.take _
 rw [← hzs] at hv0 hnl hg
 obtain ⟨a,ha⟩:∃ a,a=val xs:=⟨_,rfl⟩
 obtain ⟨N,hN⟩:∃ N,N=xs.length:=⟨_,rfl⟩
 obtain ⟨S,hS⟩:∃ S,S=tl xs:=⟨_,rfl⟩
 rw [← ha] at e1 hv0 ⊢
 rw [← hN,← hS] at h1
 rw [← hS] at e1 hnl hg lS
 rw [← hN] at lS ⊢
 have HX:Hid (Arr w p xs∧Wd zs∧N=xs.length∧zs.length=S∧val (zs.drop 0)=a∧(∀ k,k<S→zs.getD k 0=xs.getD k 0)):=⟨hx,hwz,hN,hnl,hv0,hg⟩
 clear hx hwx lx ha hN hS hzs hwz hnl hv0 hg
 by_cases cs:2<S
 ·have e2:wordN a=(0,false):=by unfold wordN;rw [if_pos (by omega)]
  rw [e2]
  have t1:(2:Int)<(S:Int):=by omega
  clear e1 e2 cs HX lS
  go_enter Tryz.func220,Tryz.ntmps220
  go_wp2_with fail
  refine SM h1 ?_
  go_wp2
  exact BR (v:=.tuple #[.int .u64 0,.bool false]) (by simp [results,Tryz.results220,go_sem] <;> simp only [*]) rfl ⟨rfl,rfl⟩
 ·have e2:wordN a=(a,true):=by unfold wordN;rw [if_neg (by omega)]
  rw [e2]
  have t1:¬ ((2:Int)<(S:Int)):=by omega
  have hS2:S≤2:=by omega
  clear e1 e2 cs
  go_enter Tryz.func220,Tryz.ntmps220
  go_wp2_with fail
  refine SM h1 ?_
  clear h1
  go_wp2
  clear t1
  go_loop [5,6] (fun v i=>∃ (k:Nat) (z:Int),z=(k:Int) - 1∧i=.int .i64 z∧k≤S∧v=.int .u64 (val (zs.drop k):Nat)) (fun _ i=>(intOf i+1).toNat)
  case atStart=>exact ⟨S,_,rfl,by go_num,Nat.le_refl _,by rw [List.drop_of_length_le (by have:=HX.out.2.2.2.1;omega)];rfl⟩
  case round =>
   obtain ⟨k,z,hz,rfl,hk,rfl⟩:=hrel
   obtain ⟨hx,hwz,hN,hnl,hv0,hg⟩:=HX.out
   rcases k with _ | k
   ·have hz0:z = -1:=by omega
    subst hz0
    rw [hv0]
    clear hz HX hx hwz hN hnl hv0 hg hk
    go_wp2
    exact BR (v:=.tuple #[.int .u64 (a:Int),.bool true]) (by simp [results,Tryz.results220,go_sem] <;> simp only [*]) rfl ⟨rfl,rfl⟩
   ·have hz0:z=(k:Int):=by omega
    subst hz0
    obtain ⟨b,off,rfl,hc⟩:=hx.at (k:=k) (by omega)
    have e1:=hc k (by omega)
    rw [← hg k (by omega)] at e1
    have wz:=hwz k
    have hd:=val_drop zs k (by omega)
    have hlt:val (zs.drop (k+1))<4294967296:=by
     have h1:=val_lt (zs.drop (k+1)) (fun j=>by
      have:=hwz (k+1+j)
      simpa [List.getD,List.getElem?_drop] using this)
     have h2:(zs.drop (k+1)).length≤1:=by rw [List.length_drop];omega
     exact Nat.lt_of_lt_of_le h1 (Nat.le_trans (Nat.pow_le_pow_right (by omega) h2) (by decide))
    obtain ⟨X,hX⟩:∃ X:Nat,(X:Int)=zs.getD k 0:=⟨(zs.getD k 0).toNat,by omega⟩
    rw [← hX] at e1 hd
    rw [Int.toNat_natCast] at hd
    obtain ⟨V,hV⟩:∃ V,V=val (zs.drop (k+1)):=⟨_,rfl⟩
    rw [← hV] at hd hlt ⊢
    have HG:Hid (val (zs.drop k)=X+4294967296*V):=hd
    have f0:IntKind.u64.wrap (X:Int)=(X:Int):=by rw [IntKind.wrap_u64];omega
    have f1:IntKind.u64.wrap ((V:Int)*4294967296)=((V*4294967296:Nat):Int):=by rw [IntKind.wrap_u64];omega
    have hor:=or_low X V 32 (by omega)
    have f2:=bits_or_u64_nat (V*4294967296) X (by omega) (by omega)
    have e2:V*4294967296 ||| X=X+4294967296*V:=by
     rw [Nat.or_comm,Nat.mul_comm 4294967296];exact hor
    rw [e2] at f2
    obtain ⟨Y,hY⟩:∃ Y:Nat,Y=V*4294967296:=⟨_,rfl⟩
    obtain ⟨T,hT⟩:∃ T:Nat,T=X+4294967296*V:=⟨_,rfl⟩
    rw [← hY] at f1 f2
    rw [← hT] at f2 HG
    have i0:(0:Int)≤(k:Int):=by omega
    have i1:(k:Int)<(N:Int):=by omega
    have hk2:k≤S:=by omega
    clear hz HX hx hwz hN hnl hv0 hg hc wz hd hX hV hor e2 hY hT hlt hk lS hS2
    go_wp2
    exact ⟨⟨k,_,rfl,by go_num,hk2,by rw [HG.out]⟩,by simp [intOf]⟩
theorem leftR (v:Value) (a m:Nat) (w:World) (h:Ls w v (dig a)) (l:blen a≤16777216) (hm:m≤16777216) :
  Calls Tryz.prog 171 #[v,.int .i64 (m:Int)] w fun e w'=>∃ v',e=.returned v'∧Ls w' v' (dig (a*2 ^ m))∧Kp w w':=by
 obtain ⟨p,c,rfl,hA,hc⟩:=h
 have h:=rleft_ p c m (dig a) w hA (Wd_dig a) (Nat.le_trans (dlen a 524288 (by omega)) (by omega)) hm
 rw [val_dig] at h
 exact h.mono fun e w' ⟨v,h1,h2,h3⟩=>⟨v,h1,h2.ls,h3⟩
theorem cmpR (v1 v2:Value) (a b:Nat) (w:World) (h1:Ls w v1 (dig a)) (h2:Ls w v2 (dig b)) (l1:blen a≤33554432) (l2:blen b≤33554432) :
  Calls Tryz.prog 134 #[v1,v2] w fun e w'=>e=.returned (.int .i64 (cmpN a b))∧Kp w w':=by
 obtain ⟨p,c,rfl,hA,hc⟩:=h1
 obtain ⟨q,d,rfl,hB,hd⟩:=h2
 have e1:=dlen a 1048576 (by omega)
 have e2:=dlen b 1048576 (by omega)
 have h:=rcmp_ p q c d (dig a) (dig b) w hA hB (Wd_dig a) (Wd_dig b) (by omega) (by omega)
 rw [val_dig,val_dig] at h
 exact h
theorem lenR (v:Value) (a:Nat) (w:World) (h:Ls w v (dig a)) (l:blen a≤33554432) :
  Calls Tryz.prog 202 #[v] w fun e w'=>e=.returned (.int .i64 (blen a:Nat))∧w'=w:=by
 obtain ⟨p,c,rfl,hA,hc⟩:=h
 have e1:=dlen a 1048576 (by omega)
 have h:=rlen_ p c (dig a) w hA (Wd_dig a) (by omega)
 rw [val_dig] at h
 exact h
theorem normR (v:Value) (L:List Int) (w:World) (h:Ls w v L) (hw:Wd L) (l:L.length≤1048576) :
  Calls Tryz.prog 130 #[v] w fun e w'=>∃ v',e=.returned v'∧Ls w' v' (dig (val L))∧Kp w w':=by
 obtain ⟨p,c,rfl,hA,hc⟩:=h
 have h:=rnorm_ p c L w hA (by omega)
 rw [nz_dig L hw] at h
 exact h.mono fun e w' ⟨v,h1,h2,h3⟩=>⟨v,h1,h2.ls,h3⟩
theorem wordR (v:Value) (a:Nat) (w:World) (h:Ls w v (dig a)) (l:a<18446744073709551616) :
  Calls Tryz.prog 220 #[v] w fun e w'=>e=.returned (.tuple #[.int .u64 (a:Int),.bool true])∧w'=w:=by
 obtain ⟨p,c,rfl,hA,hc⟩:=h
 have hl:len32 a≤2:=by
  by_cases c:len32 a≤2
  ·exact c
  ·exfalso
   have:=len32_lt a 2 (by omega)
   omega
 have hl2:(dig a).length≤2:=hl
 have h:=rword_ p c (dig a) w hA (Wd_dig a) (by omega)
 rw [val_dig] at h
 unfold wordN at h
 rw [if_neg (by omega)] at h
 exact h
theorem byR (v1 v2:Value) (a b:Nat) (w:World) (h1:Ls w v1 (dig a)) (h2:Ls w v2 (dig b)) (l1:blen a≤33554432) (l2:blen b≤8388608) (h0:0<b) :
  Calls Tryz.prog 167 #[v1,v2] w fun e w'=>∃ q r,e=.returned (.tuple #[q,r])∧Ls w' q (dig (a / b))∧Ls w' r (dig (a % b))∧Kp w w':=by
 obtain ⟨p,c,rfl,hA,hc⟩:=h1
 obtain ⟨q,d,rfl,hB,hd⟩:=h2
 have e1:=dlen a 1048576 (by omega)
 have e2:=dlen b 262144 (by omega)
 have h:=rby_ p q c d (dig a) (dig b) w hA hB (Wd_dig a) (Wd_dig b) e1 (by omega) (by rw [tl_dig];exact e2) (by rw [val_dig];exact h0)
 rw [val_dig,val_dig] at h
 exact h.mono fun e w' ⟨v,he,⟨p1,c1,p2,c2,e2,o1,o2,_⟩,hk⟩=>⟨_,_,by rw [he,e2],o1.ls,o2.ls,hk⟩
theorem w64x (z:Int) (h0:-1099511627776≤z) (h1:z≤1099511627776):wrap64 z=z:=by unfold wrap64;omega
theorem made_ (neg:Bool) (sig:Nat) (e:Int) (w:World) (hs:sig≤9007199254740992) (he:-1074≤e) (he2:e<5000) (hb:blen (sig*2 ^ (e+1074).toNat)≤2098) :
  Calls Tryz.prog 221 #[.bool neg,.int .u64 (sig:Int),.int .i64 e] w fun r w'=>r=.returned (.int .u64 ((mdW neg (rgU 53 (sig*2 ^ (e+1074).toNat)):Nat):Int))∧w'=w:=by
 by_cases c0:sig=0
 ·subst c0
  rw [Nat.zero_mul,rgU_zero]
  clear hb
  go_enter Tryz.func221,Tryz.ntmps221
  go_wp2
  exact BR (v:=.int .u64 0) (by simp [results,Tryz.results221,go_sem]) rfl ⟨rfl,rfl⟩
 ·have t0:¬ ((sig:Int)=0):=by omega
  obtain ⟨U,hU⟩:∃ U,U=sig*2 ^ (e+1074).toNat:=⟨_,rfl⟩
  rw [← hU] at hb ⊢
  have HB:Hid (blen U≤2098):=hb
  have j0:MdI U sig e:=⟨c0,hs,he,by omega,hU.symm⟩
  clear hb hU c0 hs he
  go_enter Tryz.func221,Tryz.ntmps221
  go_wp2
  go_loop [1,2] (fun a b=>∃ (s:Nat) (x:Int),a=.int .u64 (s:Int)∧b=.int .i64 x∧MdI U s x∧(x<5000∨s<9007199254740992)) (fun a _=>(intOf a).toNat)
  case atStart=>exact ⟨_,_,rfl,rfl,j0,Or.inl he2⟩
  case round =>
   clear j0 t0 he2
   obtain ⟨s,x,rfl,rfl,j1,hx⟩:=hrel
   obtain ⟨a1,a2,a3,a4,a5⟩:=id j1
   by_cases k1:9007199254740992≤s
   ·have t1:9007199254740992≤(s:Int):=by omega
    obtain ⟨q,q2⟩:=j1.half (by omega) k1
    have f4:s / 2<s:=by omega
    obtain ⟨h,hh⟩:∃ h,h=s / 2:=⟨_,rfl⟩
    rw [← hh] at q q2 f4
    have f2:(s:Int) / 2=(h:Int):=by omega
    have f3:wrap64 (x+1)=x+1:=w64x _ (by omega) (by omega)
    have Q:Hid ((MdI U h (x+1)∧h<9007199254740992)∧h<s):=⟨⟨q,q2⟩,f4⟩
    clear a1 a2 a3 a4 a5 j1 hx q q2 k1 f4 hh
    go_wp2
    exact ⟨⟨h,x+1,rfl,by rw [f3],Q.out.1.1,Or.inr Q.out.1.2⟩,by simp only [intOf,Int.toNat_natCast];exact Q.out.2⟩
   ·have j2:s<9007199254740992:=by omega
    have t1:¬ (9007199254740992≤(s:Int)):=by omega
    have t2:¬ (x < -1074):=by omega
    have f1:bits BinOp.and IntKind.u64 (s:Int) 1=((s % 2:Nat):Int):=by
     have:=u64_and_nat s 1 (by omega) (by omega)
     rw [Nat.and_one_is_mod] at this
     exact this
    clear a1 a2 a3 a4 a5 hx k1
    rcases (by omega:s % 2=0∨s % 2=1) with cp | cp
    ·rw [cp] at f1
     have HJ:Hid (MdI U s x∧s<9007199254740992):=⟨j1,j2⟩
     clear cp j1 j2
     go_wp2
     obtain ⟨j1,j2⟩:=HJ.out
     clear f1 t1 t2 HJ
     go_loop [1,2] (fun a b=>∃ (s:Nat) (x:Int),a=.int .u64 (s:Int)∧b=.int .i64 x∧MdI U s x∧s<9007199254740992) (fun _ b=>(intOf b+1074).toNat)
     case atStart=>exact ⟨_,_,rfl,rfl,j1,j2⟩
     case round =>
      clear j1 j2
      obtain ⟨s,x,rfl,rfl,hj,hs⟩:=hrel
      obtain ⟨a1,a2,a3,a4,a5⟩:=id hj
      by_cases k1:s<4503599627370496
      ·have t1:(s:Int)<4503599627370496:=by omega
       by_cases k2:-1074<x
       ·have q:=hj.dbl k1 k2
        have q2:2*s<9007199254740992:=by omega
        have f2:IntKind.u64.wrap ((s:Int)*2)=((2*s:Nat):Int):=by rw [IntKind.wrap_u64];omega
        have f3:wrap64 (x - 1)=x - 1:=w64x _ (by omega) (by omega)
        have f4:(x - 1+1074).toNat<(x+1074).toNat:=by omega
        have Q:Hid (MdI U (2*s) (x - 1)∧2*s<9007199254740992):=⟨q,q2⟩
        clear a1 a2 a3 a4 a5 hj hs q q2 k1
        go_wp2
        exact ⟨⟨2*s,x - 1,by first | rw [f2] | exact congrArg _ (by omega),by rw [f3],Q.out.1,Q.out.2⟩,by simp only [intOf,f3];exact f4⟩
       ·obtain ⟨r1,r2⟩:=hj.low k1 (by omega)
        have HM:Hid (rgU 53 U=s):=r1
        have HM0:Hid (s≠0):=a1
        have hor:((s:Nat):Nat) ||| 9223372036854775808=9223372036854775808+s:=by
         have:=or_low s 1 63 (by rw [show (2:Nat) ^ 63=9223372036854775808 from by decide];omega)
         rw [show 1*2 ^ 63=9223372036854775808 from by decide] at this
         omega
        obtain ⟨m,hm⟩:∃ m,m=s:=⟨_,rfl⟩
        subst hm
        obtain ⟨Z,hZ⟩:∃ Z,Z=9223372036854775808+m:=⟨_,rfl⟩
        have fo:bits BinOp.or IntKind.u64 (m:Int) 9223372036854775808=(Z:Int):=by
         have:=u64_or_nat m 9223372036854775808 (by omega) (by decide)
         rw [hor,← hZ] at this
         exact this
        have HZ:Hid (mdW true m=Z):=by show _=_;rw [hZ];unfold mdW;rw [if_neg HM0.out,if_pos rfl]
        have HN:Hid (mdW false m=m):=by show _=_;unfold mdW;rw [if_neg HM0.out];rfl
        clear hZ
        have t1b:¬ (4503599627370496≤(m:Int)):=by omega
        clear a1 a2 a3 a4 a5 hj hs k1 r1 r2 hor
        by_cases cn:neg=true
        ·subst cn
         go_wp2
         exact BR (v:=.int .u64 (Z:Int)) (by simp [results,Tryz.results221,go_sem]) rfl ⟨by rw [HM.out,HZ.out],rfl⟩
        ·have cn2:neg=false:=by simpa using cn
         subst cn2
         clear cn
         go_wp2
         exact BR (v:=.int .u64 (m:Int)) (by simp [results,Tryz.results221,go_sem]) rfl ⟨by rw [HM.out,HN.out],rfl⟩
      ·have t1:¬ ((s:Int)<4503599627370496):=by omega
       have t1b:4503599627370496≤(s:Int):=by omega
       obtain ⟨r0,r1,r2,r3⟩:=hj.top (by omega) hs HB.out
       obtain ⟨m,hm⟩:∃ m,m=rgU 53 U:=⟨_,rfl⟩
       rw [← hm] at r1 r2 r3
       have HM:Hid (rgU 53 U=m):=hm.symm
       have HM0:Hid (m≠0):=r3
       have hor:m ||| 9223372036854775808=9223372036854775808+m:=by
        have:=or_low m 1 63 (by rw [show (2:Nat) ^ 63=9223372036854775808 from by decide];omega)
        rw [show 1*2 ^ 63=9223372036854775808 from by decide] at this
        omega
       obtain ⟨Z,hZ⟩:∃ Z,Z=9223372036854775808+m:=⟨_,rfl⟩
       have fo:bits BinOp.or IntKind.u64 (m:Int) 9223372036854775808=(Z:Int):=by
        have:=u64_or_nat m 9223372036854775808 (by omega) (by decide)
        rw [hor,← hZ] at this
        exact this
       have HZ:Hid (mdW true m=Z):=by show _=_;rw [hZ];unfold mdW;rw [if_neg HM0.out,if_pos rfl]
       have HN:Hid (mdW false m=m):=by show _=_;unfold mdW;rw [if_neg HM0.out];rfl
       clear hZ
       obtain ⟨y,hy⟩:∃ y:Nat,(y:Int)=x+1075:=⟨(x+1075).toNat,by omega⟩
       obtain ⟨z,hz⟩:∃ z:Nat,z=s - 4503599627370496:=⟨_,rfl⟩
       obtain ⟨y2,hy2⟩:∃ y2:Nat,y2=y*4503599627370496:=⟨_,rfl⟩
       rw [show (x+1075).toNat=y from by omega,← hz,← hy2] at r1
       have f2:IntKind.u64.wrap ((s:Int) - 4503599627370496)=(z:Int):=by rw [IntKind.wrap_u64];omega
       have f3:wrap64 (x+1075)=(y:Int):=by rw [← hy];exact w64x _ (by omega) (by omega)
       have f4:IntKind.u64.wrap (y:Int)=(y:Int):=by rw [IntKind.wrap_u64];omega
       have f5:IntKind.u64.wrap ((y:Int)*4503599627370496)=(y2:Int):=by rw [IntKind.wrap_u64];omega
       have f6:IntKind.u64.wrap ((z:Int)+(y2:Int))=(m:Int):=by rw [IntKind.wrap_u64];omega
       clear a1 a2 a3 a4 a5 hj hs k1 r0 r1 r2 r3 hor hm hy hz hy2
       by_cases cn:neg=true
       ·subst cn
        go_wp2
        exact BR (v:=.int .u64 (Z:Int)) (by simp [results,Tryz.results221,go_sem]) rfl ⟨by rw [HM.out,HZ.out],rfl⟩
       ·have cn2:neg=false:=by simpa using cn
        subst cn2
        clear cn
        go_wp2
        exact BR (v:=.int .u64 (m:Int)) (by simp [results,Tryz.results221,go_sem]) rfl ⟨by rw [HM.out,HN.out],rfl⟩
    ·rw [cp] at f1
     have HJ:Hid (MdI U s x∧s<9007199254740992):=⟨j1,j2⟩
     clear cp j1 j2
     go_wp2
     obtain ⟨j1,j2⟩:=HJ.out
     clear f1 t1 t2 HJ
     go_loop [1,2] (fun a b=>∃ (s:Nat) (x:Int),a=.int .u64 (s:Int)∧b=.int .i64 x∧MdI U s x∧s<9007199254740992) (fun _ b=>(intOf b+1074).toNat)
     case atStart=>exact ⟨_,_,rfl,rfl,j1,j2⟩
     case round =>
      clear j1 j2
      obtain ⟨s,x,rfl,rfl,hj,hs⟩:=hrel
      obtain ⟨a1,a2,a3,a4,a5⟩:=id hj
      by_cases k1:s<4503599627370496
      ·have t1:(s:Int)<4503599627370496:=by omega
       by_cases k2:-1074<x
       ·have q:=hj.dbl k1 k2
        have q2:2*s<9007199254740992:=by omega
        have f2:IntKind.u64.wrap ((s:Int)*2)=((2*s:Nat):Int):=by rw [IntKind.wrap_u64];omega
        have f3:wrap64 (x - 1)=x - 1:=w64x _ (by omega) (by omega)
        have f4:(x - 1+1074).toNat<(x+1074).toNat:=by omega
        have Q:Hid (MdI U (2*s) (x - 1)∧2*s<9007199254740992):=⟨q,q2⟩
        clear a1 a2 a3 a4 a5 hj hs q q2 k1
        go_wp2
        exact ⟨⟨2*s,x - 1,by first | rw [f2] | exact congrArg _ (by omega),by rw [f3],Q.out.1,Q.out.2⟩,by simp only [intOf,f3];exact f4⟩
       ·obtain ⟨r1,r2⟩:=hj.low k1 (by omega)
        have HM:Hid (rgU 53 U=s):=r1
        have HM0:Hid (s≠0):=a1
        have hor:((s:Nat):Nat) ||| 9223372036854775808=9223372036854775808+s:=by
         have:=or_low s 1 63 (by rw [show (2:Nat) ^ 63=9223372036854775808 from by decide];omega)
         rw [show 1*2 ^ 63=9223372036854775808 from by decide] at this
         omega
        obtain ⟨m,hm⟩:∃ m,m=s:=⟨_,rfl⟩
        subst hm
        obtain ⟨Z,hZ⟩:∃ Z,Z=9223372036854775808+m:=⟨_,rfl⟩
        have fo:bits BinOp.or IntKind.u64 (m:Int) 9223372036854775808=(Z:Int):=by
         have:=u64_or_nat m 9223372036854775808 (by omega) (by decide)
         rw [hor,← hZ] at this
         exact this
        have HZ:Hid (mdW true m=Z):=by show _=_;rw [hZ];unfold mdW;rw [if_neg HM0.out,if_pos rfl]
        have HN:Hid (mdW false m=m):=by show _=_;unfold mdW;rw [if_neg HM0.out];rfl
        clear hZ
        have t1b:¬ (4503599627370496≤(m:Int)):=by omega
        clear a1 a2 a3 a4 a5 hj hs k1 r1 r2 hor
        by_cases cn:neg=true
        ·subst cn
         go_wp2
         exact BR (v:=.int .u64 (Z:Int)) (by simp [results,Tryz.results221,go_sem]) rfl ⟨by rw [HM.out,HZ.out],rfl⟩
        ·have cn2:neg=false:=by simpa using cn
         subst cn2
         clear cn
         go_wp2
         exact BR (v:=.int .u64 (m:Int)) (by simp [results,Tryz.results221,go_sem]) rfl ⟨by rw [HM.out,HN.out],rfl⟩
      ·have t1:¬ ((s:Int)<4503599627370496):=by omega
       have t1b:4503599627370496≤(s:Int):=by omega
       obtain ⟨r0,r1,r2,r3⟩:=hj.top (by omega) hs HB.out
       obtain ⟨m,hm⟩:∃ m,m=rgU 53 U:=⟨_,rfl⟩
       rw [← hm] at r1 r2 r3
       have HM:Hid (rgU 53 U=m):=hm.symm
       have HM0:Hid (m≠0):=r3
       have hor:m ||| 9223372036854775808=9223372036854775808+m:=by
        have:=or_low m 1 63 (by rw [show (2:Nat) ^ 63=9223372036854775808 from by decide];omega)
        rw [show 1*2 ^ 63=9223372036854775808 from by decide] at this
        omega
       obtain ⟨Z,hZ⟩:∃ Z,Z=9223372036854775808+m:=⟨_,rfl⟩
       have fo:bits BinOp.or IntKind.u64 (m:Int) 9223372036854775808=(Z:Int):=by
        have:=u64_or_nat m 9223372036854775808 (by omega) (by decide)
        rw [hor,← hZ] at this
        exact this
       have HZ:Hid (mdW true m=Z):=by show _=_;rw [hZ];unfold mdW;rw [if_neg HM0.out,if_pos rfl]
       have HN:Hid (mdW false m=m):=by show _=_;unfold mdW;rw [if_neg HM0.out];rfl
       clear hZ
       obtain ⟨y,hy⟩:∃ y:Nat,(y:Int)=x+1075:=⟨(x+1075).toNat,by omega⟩
       obtain ⟨z,hz⟩:∃ z:Nat,z=s - 4503599627370496:=⟨_,rfl⟩
       obtain ⟨y2,hy2⟩:∃ y2:Nat,y2=y*4503599627370496:=⟨_,rfl⟩
       rw [show (x+1075).toNat=y from by omega,← hz,← hy2] at r1
       have f2:IntKind.u64.wrap ((s:Int) - 4503599627370496)=(z:Int):=by rw [IntKind.wrap_u64];omega
       have f3:wrap64 (x+1075)=(y:Int):=by rw [← hy];exact w64x _ (by omega) (by omega)
       have f4:IntKind.u64.wrap (y:Int)=(y:Int):=by rw [IntKind.wrap_u64];omega
       have f5:IntKind.u64.wrap ((y:Int)*4503599627370496)=(y2:Int):=by rw [IntKind.wrap_u64];omega
       have f6:IntKind.u64.wrap ((z:Int)+(y2:Int))=(m:Int):=by rw [IntKind.wrap_u64];omega
       clear a1 a2 a3 a4 a5 hj hs k1 r0 r1 r2 r3 hor hm hy hz hy2
       by_cases cn:neg=true
       ·subst cn
        go_wp2
        exact BR (v:=.int .u64 (Z:Int)) (by simp [results,Tryz.results221,go_sem]) rfl ⟨by rw [HM.out,HZ.out],rfl⟩
       ·have cn2:neg=false:=by simpa using cn
        subst cn2
        clear cn
        go_wp2
        exact BR (v:=.int .u64 (m:Int)) (by simp [results,Tryz.results221,go_sem]) rfl ⟨by rw [HM.out,HN.out],rfl⟩
theorem greG (sig P x s G:Nat) (hb:blen sig=P) (h0:sig≠0) (hP:P≤53) (hs:s=min (53 - P) x) (hG:(x - s)*4503599627370496+sig*2 ^ s=G) (hx:P+x≤2098):rgU 53 (sig*2 ^ x)=G∧blen (sig*2 ^ x)≤2098:=by
 have h:=rgU_mul 53 sig x s h0 (by rw [hb];exact hs) (by rw [hb];exact hP)
 rw [show (2:Nat) ^ (53 - 1)=4503599627370496 from by decide,hG] at h
 exact ⟨h,by rw [blen_mul _ _ h0,hb];exact hx⟩
theorem rinf_ (neg:Bool) (w:World):Calls Tryz.prog 218 #[.bool neg] w fun e w'=>e=.returned (.int .u64 ((mdW neg 9218868437227405312:Nat):Int))∧w'=w:=by
 cases neg
 ·rw [show ((mdW false 9218868437227405312:Nat):Int)=9218868437227405312 from rfl]
  go_enter Tryz.func218,Tryz.ntmps218
  go_wp2
  exact BR (v:=.int .u64 9218868437227405312) (by simp [results,Tryz.results218,go_sem]) rfl ⟨rfl,rfl⟩
 ·rw [show ((mdW true 9218868437227405312:Nat):Int)=18442240474082181120 from rfl]
  go_enter Tryz.func218,Tryz.ntmps218
  go_wp2
  exact BR (v:=.int .u64 18442240474082181120) (by simp [results,Tryz.results218,go_sem]) rfl ⟨rfl,rfl⟩
theorem rgreD_ (neg:Bool) (w:World):Calls Tryz.prog 219 #[.bool neg,.int .i64 53,.int .i64 1023] w fun e w'=>e=.returned (.int .u64 ((mdW neg 9218868437227405311:Nat):Int))∧w'=w:=by
 obtain ⟨x,hx⟩:∃ x:Int,x=971:=⟨_,rfl⟩
 have hg:=greG 9007199254740991 53 (x+1074).toNat 0 9218868437227405311 (blen_uniq 9007199254740991 52 (by decide) (by decide)) (by decide) (by decide) (by omega) (by omega) (by omega)
 have hm:=made_ neg 9007199254740991 x w (by decide) (by omega) (by omega) hg.2
 rw [hg.1,hx] at hm
 obtain ⟨Z,hZ⟩:∃ Z,Z=mdW neg 9218868437227405311:=⟨_,rfl⟩
 rw [← hZ] at hm ⊢
 clear hZ
 have hm2:Calls Tryz.prog 221 #[.bool neg,.int .u64 9007199254740991,.int .i64 971] w fun e w'=>e=.returned (.int .u64 (Z:Int))∧w'=w:=hm
 clear hm
 go_enter Tryz.func219,Tryz.ntmps219
 go_wp2_with fail
 refine SM hm2 ?_;clear hm2
 go_wp2
 exact BR (v:=.int .u64 (Z:Int)) (by simp [results,Tryz.results219,go_sem]) rfl ⟨rfl,rfl⟩
theorem rsign_ (neg:Bool) (vn vd:Value) (n:Nat) (w:World) (hn:Ls w vn (dig n)) (l:blen n≤33554432) :
  Calls Tryz.prog 133 #[.agg #[.bool neg,vn,vd]] w fun e w'=>e=.returned (.int .i64 (if n=0 then 0 else if neg then -1 else 1))∧Kp w w':=by
 obtain ⟨w0,hw0⟩:∃ w0,w0=w.alloc (.cells #[.bool neg,vn,vd] 57):=⟨_,rfl⟩
 have hk0:Kp w w0:=by rw [hw0];exact (Kp.refl w).alloc _
 have c0:w0.cell? ⟨w.heap.size,0,none⟩=some (.bool neg):=by rw [hw0];simp [go_sem]
 have hc:=normR vn (dig n) w0 (hn.kp hk0) (Wd_dig n) (dlen n 1048576 (by omega))
 rw [val_dig] at hc
 have hlz:=dig_len_zero n
 obtain ⟨M,hM⟩:∃ M,M=(dig n).length:=⟨_,rfl⟩
 have HM:Hid (M=(dig n).length):=hM
 rw [← hM] at hlz
 clear hn l hM
 by_cases cz:n=0
 ·have hM0:M=0:=hlz.2 cz
  rw [if_pos cz]
  clear hlz cz
  go_enter Tryz.func133,Tryz.ntmps133
  go_wp2_with fail
  rw [← hw0]
  refine hc.mono ?_;rintro e w1 ⟨v1,rfl,⟨p1,c1,rfl,_,_⟩,hk⟩
  rw [← HM.out]
  subst hM0
  have K1:Kp w w1:=hk0.trans hk
  clear hc hk hw0 hk0 c0
  go_wp2
  exact BR (v:=.int .i64 0) (by simp [results,Tryz.results133,go_sem]) rfl ⟨rfl,K1⟩
 ·have hM0:¬ ((M:Int)=0):=by have:=mt hlz.1 cz;omega
  rw [if_neg cz]
  clear hlz cz
  go_enter Tryz.func133,Tryz.ntmps133
  go_wp2_with fail
  rw [← hw0]
  refine hc.mono ?_;rintro e w1 ⟨v1,rfl,⟨p1,c1,rfl,_,_⟩,hk⟩
  rw [← HM.out]
  have K1:Kp w w1:=hk0.trans hk
  have c1':=kkeep hk c0
  clear hc hk hw0 hk0 c0
  cases neg
  ·go_wp2
   exact BR (v:=.int .i64 1) (by simp [results,Tryz.results133,go_sem]) rfl ⟨rfl,K1⟩
  ·go_wp2
   exact BR (v:=.int .i64 (-1)) (by simp [results,Tryz.results133,go_sem]) rfl ⟨rfl,K1⟩
end Go.Proofs.YtmpjcknaelgnoaaGreatDoor
