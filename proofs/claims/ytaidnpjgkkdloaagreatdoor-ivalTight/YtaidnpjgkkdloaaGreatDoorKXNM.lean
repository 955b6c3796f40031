import Derived.Test.YtaidnpjgkkdloaaGreatDoorKXNS
set_option maxHeartbeats 1000000
set_option maxRecDepth 20000
namespace Go.Proofs.YtaidnpjgkkdloaaGreatDoor
open Go.RowKit
theorem row2 (w:World) (x y:Int):Rw (w.alloc (.cells #[.int .u32 x,.int .u32 y] 43)) w.heap.size 2 [x,y]:=by
  have:=World.rowIs_alloc w #[.int .u32 x,.int .u32 y] 43 (fun i=>.int .u32 ([x,y].getD i 0)) (fun i hi=>by
    have h:i = 0∨i = 1:=by simp at hi;omega
    rcases h with rfl | rfl <;> rfl)
  exact this
theorem row1 (w:World) (x:Int):Rw (w.alloc (.cells #[.int .u32 x] 43)) w.heap.size 1 [x]:=by
  have:=World.rowIs_alloc w #[.int .u32 x] 43 (fun i=>.int .u32 ([x].getD i 0)) (fun i hi=>by
    have h:i = 0:=by simp at hi;omega
    rcases h with rfl;rfl)
  exact this
theorem own1 (w:World):Own (w.alloc (.cells #[.int .u32 1] 43)) w.heap.size (.slice (some ⟨w.heap.size,0,none⟩) 1 1) [1] :=
  Own.of_row (row1 w 1) (Nat.le_refl _) (Nat.le_refl _) rfl (by unfold maxLen;omega)
theorem nsmall_ (v:Nat) (hv:v < 18446744073709551616) (w:World) :
    Calls Tryz.prog 89 #[.int .u64 (v:Int)] w fun e w'=>∃ r,e = .returned r∧Own w' w.heap.size r (dig v)∧Kp w w':=by
  obtain ⟨lo,hlo⟩:∃ lo:Nat,lo = v % 4294967296:=⟨_,rfl⟩
  obtain ⟨hi,hhi⟩:∃ hi:Nat,hi = v / 4294967296:=⟨_,rfl⟩
  have f1:IntKind.u32.wrap (v:Int) = (lo:Int):=by rw [IntKind.wrap_u32];omega
  have f2:(v:Int) / 4294967296 = (hi:Int):=by omega
  have f3:IntKind.u32.wrap (hi:Int) = (hi:Int):=by rw [IntKind.wrap_u32];omega
  have hw:Wd [(lo:Int),(hi:Int)]:=Wd.mk (by omega) (Wd.mk (by omega) Wd.nil)
  have hval:val [(lo:Int),(hi:Int)] = v:=by simp [val];omega
  have hr:=row2 w (lo:Int) (hi:Int)
  have htr:=trim_ (some ⟨w.heap.size,0,none⟩) 2 [(lo:Int),(hi:Int)] _ (by simpa using hr.arr 2 (Nat.le_refl _) (by simp)) (by simp) (by simp)
  have hO:Own (w.alloc (.cells #[.int .u32 (lo:Int),.int .u32 (hi:Int)] 43)) w.heap.size (.slice (some ⟨w.heap.size,0,none⟩) (tl [(lo:Int),(hi:Int)]) 2) (dig v):=by
    have h1:=Own.of_row (base:=w.heap.size) (k:=tl [(lo:Int),(hi:Int)]) hr (Nat.le_refl _) (tl_le _) rfl (by unfold maxLen;omega)
    have h2:[(lo:Int),(hi:Int)].take (tl [(lo:Int),(hi:Int)]) = dig v:=by rw [← hval,← nz_dig _ hw];rfl
    rw [h2] at h1
    exact h1
  have hk:Kp w (w.alloc (.cells #[.int .u32 (lo:Int),.int .u32 (hi:Int)] 43)):=(Kp.refl w).alloc _
  obtain ⟨T,hT⟩:∃ T,T = tl [(lo:Int),(hi:Int)]:=⟨_,rfl⟩
  rw [← hT] at htr hO
  have htr2:Calls Tryz.prog 108 #[.slice (some ⟨w.heap.size,0,none⟩) 2 2] (w.alloc (.cells #[.int .u32 (lo:Int),.int .u32 (hi:Int)] 43)) fun e w'=>e = .returned (.slice (some ⟨w.heap.size,0,none⟩) T 2)∧w' = w.alloc (.cells #[.int .u32 (lo:Int),.int .u32 (hi:Int)] 43):=htr
  clear htr hT hval hw hlo hhi hv hr
  go_enter Tryz.func89,Tryz.ntmps89
  go_wp2_with fail
  refine htr2.mono ?_;rintro e w' ⟨rfl,hw'⟩;subst hw'
  clear htr2
  go_wp2
  exact bodyPost_ret (v:=.slice (some ⟨w.heap.size,0,none⟩) T 2) (by simp [results,Tryz.results89,go_sem] <;> simp only [*]) rfl ⟨_,rfl,hO,hk⟩
theorem nmul_ (p q:Option Addr) (c d:Nat) (xs ys:List Int) (w:World) (hx:Arr w p xs) (hy:Arr w q ys) (hwx:Wd xs) (hwy:Wd ys) (lx:xs.length≤16777216) (ly:ys.length≤16777216) (hc:xs.length≤c) (hd:ys.length≤d) :
    Calls Tryz.prog 96 #[.slice p xs.length c,.slice q ys.length d] w fun e w'=>∃ v,e = .returned (.tuple #[v,.int .i64 (mulN (val xs) (val ys)).2])∧Own w' w.heap.size v (mulN (val xs) (val ys)).1∧Kp w w':=by
  have h1:=trim_ p c xs w hx (by omega) hc
  have h2:=trim_ q d ys w hy (by omega) hd
  have h3:=tooLong_ p (tl xs) c
  have h4:=tooLong_ q (tl ys) d
  have h5:=product_ p q c d (nz xs) (nz ys) w (hx.take _) (hy.take _) (hwx.take _) (hwy.take _) (by rw [nz_length];have:=tl_le xs;omega) (by rw [nz_length];have:=tl_le ys;omega)
  rw [nz_length,nz_length,val_nz,val_nz] at h5
  have e1:=tl_len xs hwx
  have e2:=tl_len ys hwy
  have lS:=tl_le xs
  have lT:=tl_le ys
  obtain ⟨a,ha⟩:∃ a,a = val xs:=⟨_,rfl⟩
  obtain ⟨b,hb'⟩:∃ b,b = val ys:=⟨_,rfl⟩
  rw [← ha,← hb'] at h5
  rw [← ha] at e1
  rw [← hb'] at e2
  obtain ⟨N,hN⟩:∃ N,N = xs.length:=⟨_,rfl⟩
  obtain ⟨M,hM⟩:∃ M,M = ys.length:=⟨_,rfl⟩
  obtain ⟨S,hS⟩:∃ S,S = tl xs:=⟨_,rfl⟩
  obtain ⟨T,hT⟩:∃ T,T = tl ys:=⟨_,rfl⟩
  rw [← hN,← hS] at h1
  rw [← hM,← hT] at h2
  rw [← hS] at h3 h5 e1 lS
  rw [← hT] at h4 h5 e2 lT
  rw [← hN,← hM,← ha,← hb']
  have lS2:S≤16777216:=by omega
  have lT2:T≤16777216:=by omega
  clear hx hy hwx hwy lx ly hc hd hN hM hS hT ha hb' lS lT
  by_cases c1:16384 < S
  · rw [decide_eq_true c1] at h3
    have e3:mulN a b = ([],2):=by unfold mulN;rw [if_pos (Or.inl (by omega))]
    rw [e3]
    clear h4 h5 c1 e1 e2 e3 lS2 lT2
    go_enter Tryz.func96,Tryz.ntmps96
    go_wp2_with fail
    refine h1.mono ?_;rintro e w' ⟨rfl,hw'⟩;obtain rfl:=hw'.symm
    go_wp2_with fail
    refine h2.mono ?_;rintro e w' ⟨rfl,hw'⟩;obtain rfl:=hw'.symm
    go_wp2_with fail
    refine (h3 _).mono ?_;rintro e w' ⟨rfl,hw'⟩;obtain rfl:=hw'.symm
    go_wp2
    exact bodyPost_ret (v:=.tuple #[.slice none 0 0,.int .i64 2]) (by simp [results,Tryz.results96,go_sem] <;> simp only [*]) rfl ⟨_,rfl,Own.nil _ _,Kp.refl _⟩
  rw [decide_eq_false c1] at h3
  by_cases c2:16384 < T
  · rw [decide_eq_true c2] at h4
    have e3:mulN a b = ([],2):=by unfold mulN;rw [if_pos (Or.inr (by omega))]
    rw [e3]
    clear h5 c1 c2 e1 e2 e3 lS2 lT2
    go_enter Tryz.func96,Tryz.ntmps96
    go_wp2_with fail
    refine h1.mono ?_;rintro e w' ⟨rfl,hw'⟩;obtain rfl:=hw'.symm
    go_wp2_with fail
    refine h2.mono ?_;rintro e w' ⟨rfl,hw'⟩;obtain rfl:=hw'.symm
    go_wp2_with fail
    refine (h3 _).mono ?_;rintro e w' ⟨rfl,hw'⟩;obtain rfl:=hw'.symm
    go_wp2_with fail
    refine (h4 _).mono ?_;rintro e w' ⟨rfl,hw'⟩;obtain rfl:=hw'.symm
    go_wp2
    exact bodyPost_ret (v:=.tuple #[.slice none 0 0,.int .i64 2]) (by simp [results,Tryz.results96,go_sem] <;> simp only [*]) rfl ⟨_,rfl,Own.nil _ _,Kp.refl _⟩
  rw [decide_eq_false c2] at h4
  have e0:mulN a b = if 16384 < len32 (a * b) then ([],2) else (dig (a * b),0):=by unfold mulN;rw [if_neg (by omega)]
  by_cases c5:16384 < S + T - 1
  · have c6:=mul_words a b 16384 (by omega) (by omega) (by omega)
    rw [e0,if_pos c6]
    have t1:(16384:Int) < (S:Int) + (T:Int) - 1:=by omega
    clear h5 c1 c2 e1 e2 e0 c5 c6
    go_enter Tryz.func96,Tryz.ntmps96
    go_wp2_with fail
    refine h1.mono ?_;rintro e w' ⟨rfl,hw'⟩;obtain rfl:=hw'.symm
    go_wp2_with fail
    refine h2.mono ?_;rintro e w' ⟨rfl,hw'⟩;obtain rfl:=hw'.symm
    go_wp2_with fail
    refine (h3 _).mono ?_;rintro e w' ⟨rfl,hw'⟩;obtain rfl:=hw'.symm
    go_wp2_with fail
    refine (h4 _).mono ?_;rintro e w' ⟨rfl,hw'⟩;obtain rfl:=hw'.symm
    go_wp2
    exact bodyPost_ret (v:=.tuple #[.slice none 0 0,.int .i64 2]) (by simp [results,Tryz.results96,go_sem] <;> simp only [*]) rfl ⟨_,rfl,Own.nil _ _,Kp.refl _⟩
  have t1:¬ ((16384:Int) < (S:Int) + (T:Int) - 1):=by omega
  obtain ⟨K,hK⟩:∃ K,K = a * b:=⟨_,rfl⟩
  rw [e0,← hK]
  rw [← hK] at h5
  clear c1 c2 e0 hK e1 e2 c5
  by_cases c3:16384 < len32 K
  · rw [if_pos c3]
    go_enter Tryz.func96,Tryz.ntmps96
    go_wp2_with fail
    refine h1.mono ?_;rintro e w' ⟨rfl,hw'⟩;obtain rfl:=hw'.symm
    go_wp2_with fail
    refine h2.mono ?_;rintro e w' ⟨rfl,hw'⟩;obtain rfl:=hw'.symm
    go_wp2_with fail
    refine (h3 _).mono ?_;rintro e w' ⟨rfl,hw'⟩;obtain rfl:=hw'.symm
    go_wp2_with fail
    refine (h4 _).mono ?_;rintro e w' ⟨rfl,hw'⟩;obtain rfl:=hw'.symm
    go_wp2_with fail
    refine h5.mono ?_;rintro e w1 ⟨v,rfl,hO,hkp⟩
    obtain ⟨p1,cc,rfl,hA,_⟩:=hO.arr
    have hf:=unlessLong_ p1 (dig K).length cc
    have c4:(16384 < (dig K).length):=c3
    rw [if_pos c4] at hf
    clear c4
    obtain ⟨D,hD⟩:∃ D,D = (dig K).length:=⟨_,rfl⟩
    have hO':Own w1 w.heap.size (.slice p1 D cc) (dig K):=by rw [hD];exact hO
    rw [← hD] at hf ⊢
    clear hA h1 h2 h3 h4 h5 hD c3 hO
    go_wp2_with fail
    refine (hf _).mono ?_;rintro e w2 ⟨rfl,hw2⟩;obtain rfl:=hw2.symm
    go_wp2
    exact bodyPost_ret (v:=.tuple #[.slice none 0 0,.int .i64 2]) (by simp [results,Tryz.results96,go_sem] <;> simp only [*]) rfl ⟨_,rfl,Own.nil _ _,hkp⟩
  · rw [if_neg c3]
    go_enter Tryz.func96,Tryz.ntmps96
    go_wp2_with fail
    refine h1.mono ?_;rintro e w' ⟨rfl,hw'⟩;obtain rfl:=hw'.symm
    go_wp2_with fail
    refine h2.mono ?_;rintro e w' ⟨rfl,hw'⟩;obtain rfl:=hw'.symm
    go_wp2_with fail
    refine (h3 _).mono ?_;rintro e w' ⟨rfl,hw'⟩;obtain rfl:=hw'.symm
    go_wp2_with fail
    refine (h4 _).mono ?_;rintro e w' ⟨rfl,hw'⟩;obtain rfl:=hw'.symm
    go_wp2_with fail
    refine h5.mono ?_;rintro e w1 ⟨v,rfl,hO,hkp⟩
    obtain ⟨p1,cc,rfl,hA,_⟩:=hO.arr
    have hf:=unlessLong_ p1 (dig K).length cc
    have c4:¬ (16384 < (dig K).length):=c3
    rw [if_neg c4] at hf
    clear c4
    obtain ⟨D,hD⟩:∃ D,D = (dig K).length:=⟨_,rfl⟩
    have hO':Own w1 w.heap.size (.slice p1 D cc) (dig K):=by rw [hD];exact hO
    rw [← hD] at hf ⊢
    clear hA h1 h2 h3 h4 h5 hD c3 hO
    go_wp2_with fail
    refine (hf _).mono ?_;rintro e w2 ⟨rfl,hw2⟩;obtain rfl:=hw2.symm
    go_wp2
    exact bodyPost_ret (v:=.tuple #[.slice p1 D cc,.int .i64 0]) (by simp [results,Tryz.results96,go_sem] <;> simp only [*]) rfl ⟨_,rfl,hO',hkp⟩

theorem rsmall_ (v:Nat) (hv:v < 18446744073709551616) (w:World) :
    Calls Tryz.prog 21 #[.int .u64 (v:Int)] w fun e w'=>∃ r,e = .returned r∧Own w' w.heap.size r (dig v)∧Kp w w':=by
  have f0:=and32 v hv
  obtain ⟨lo,hlo⟩:∃ lo:Nat,lo = v % 4294967296:=⟨_,rfl⟩
  obtain ⟨hi,hhi⟩:∃ hi:Nat,hi = v / 4294967296:=⟨_,rfl⟩
  rw [← hlo] at f0
  have f1:IntKind.u32.wrap (lo:Int) = (lo:Int):=by rw [IntKind.wrap_u32];omega
  have f2:(v:Int) / 4294967296 = (hi:Int):=by omega
  have f3:IntKind.u32.wrap (hi:Int) = (hi:Int):=by rw [IntKind.wrap_u32];omega
  have hw:Wd [(lo:Int),(hi:Int)]:=Wd.mk (by omega) (Wd.mk (by omega) Wd.nil)
  have hval:val [(lo:Int),(hi:Int)] = v:=by simp [val];omega
  have hr:=row2 w (lo:Int) (hi:Int)
  have hk:Kp w (w.alloc (.cells #[.int .u32 (lo:Int),.int .u32 (hi:Int)] 43)):=(Kp.refl w).alloc _
  have hno:=rnorm_ (some ⟨w.heap.size,0,none⟩) 2 [(lo:Int),(hi:Int)] _ (by simpa using hr.arr 2 (Nat.le_refl _) (by simp)) (by simp)
  rw [nz_dig _ hw,hval] at hno
  obtain ⟨Z,hZ⟩:∃ Z,Z = dig v:=⟨_,rfl⟩
  rw [← hZ] at hno ⊢
  have hno2:Calls Tryz.prog 41 #[.slice (some ⟨w.heap.size,0,none⟩) 2 2] (w.alloc (.cells #[.int .u32 (lo:Int),.int .u32 (hi:Int)] 43)) fun e w'=>∃ v,e = .returned v∧Own w' (w.alloc (.cells #[.int .u32 (lo:Int),.int .u32 (hi:Int)] 43)).heap.size v Z∧Kp (w.alloc (.cells #[.int .u32 (lo:Int),.int .u32 (hi:Int)] 43)) w':=hno
  clear hno hZ hval hw hlo hhi hv hr
  go_enter Tryz.func21,Tryz.ntmps21
  go_wp2_with fail
  refine hno2.mono ?_;rintro e w1 ⟨r,rfl,hO,hk2⟩
  have hO2:=hO.mono hk.size
  have hk3:=hk.trans hk2
  clear hno2 hO hk hk2
  go_wp2
  exact bodyPost_ret (v:=r) (by simp [results,Tryz.results21,go_sem] <;> simp only [*]) rfl ⟨_,rfl,hO2,hk3⟩
theorem lowest_ (p:Option Addr) (c:Nat) (xs:List Int) (w:World) (hx:Arr w p xs) (hwx:Wd xs) (lx:xs.length≤2) :
    Calls Tryz.prog 151 #[.slice p xs.length c] w fun e w'=>e = .returned (.int .u64 (val xs:Nat))∧w' = w:=by
  obtain ⟨N,hN⟩:∃ N,N = xs.length:=⟨_,rfl⟩
  have HX:Hid (Arr w p xs∧Wd xs∧N = xs.length):=⟨hx,hwx,hN⟩
  have hmin:min (N:Int) 2 = (N:Int):=by omega
  have hN2:N≤2:=by omega
  rw [← hN]
  clear hx hwx lx hN
  go_enter Tryz.func151,Tryz.ntmps151
  go_wp2
  go_loop [3,8] (fun v i=>∃ k:Nat,i = .int .i64 k∧k≤N∧v = .int .u64 (val (xs.take k):Nat)) (fun _ i=>N - (intOf i).toNat)
  case atStart=>exact ⟨0,rfl,Nat.zero_le _,by simp [val]⟩
  case round =>
    obtain ⟨k,rfl,hk,rfl⟩:=hrel
    obtain ⟨hx,hwx,hN⟩:=HX.out
    by_cases ck:k < N
    · obtain ⟨b,off,rfl,hc⟩:=hx.at (k:=k) (by omega)
      have e1:=hc k (by omega)
      have wx:=hwx k
      have hst:=val_take_succ xs k
      have hlt:=val_two xs hwx (by omega) (k + 1)
      have hlk:=val_take_lt xs hwx k
      obtain ⟨X,hX⟩:∃ X:Nat,(X:Int) = xs.getD k 0:=⟨(xs.getD k 0).toNat,by omega⟩
      rw [← hX] at e1 hst
      rw [Int.toNat_natCast] at hst
      obtain ⟨V,hV⟩:∃ V,V = val (xs.take k):=⟨_,rfl⟩
      obtain ⟨V',hV'⟩:∃ V',V' = val (xs.take (k + 1)):=⟨_,rfl⟩
      rw [← hV] at hst hlk ⊢
      rw [← hV'] at hst hlt
      have HG:Hid (V' = val (xs.take (k + 1))):=hV'
      have f0:IntKind.u64.wrap (X:Int) = (X:Int):=by rw [IntKind.wrap_u64];omega
      have i0:(0:Int)≤(k:Int):=by omega
      have i1:(k:Int) < (N:Int):=by omega
      have hX32:X < 4294967296:=by omega
      clear hx hwx hN hc wx hX hV hV' HX
      rcases (by omega:k = 0∨k = 1) with rfl | rfl
      · have hV0:V = 0:=by simpa using hlk
        subst hV0
        have hX':V' = X:=by simpa using hst
        subst hX'
        have f2:bits BinOp.or IntKind.u64 0 (V':Int) = (V':Int):=by
          have:=bits_or_u64_nat 0 V' (by omega) (by omega)
          simpa using this
        rw [Nat.add_zero] at e1
        clear hst hlt hlk
        go_wp2
        exact ⟨⟨1,by go_num,by omega,by rw [← HG.out]⟩,by simp [intOf];omega⟩
      · have f1:IntKind.u64.wrap ((X:Int) * 4294967296) = ((X * 4294967296:Nat):Int):=by rw [IntKind.wrap_u64];omega
        have hor:=or_low V X 32 (by simpa using hlk)
        have f2:=bits_or_u64_nat V (X * 4294967296) (by omega) (by omega)
        have e2:V ||| X * 4294967296 = V':=by
          have e3:V + X * 4294967296 = V':=by omega
          rw [← e3];exact hor
        rw [e2] at f2
        obtain ⟨Y,hY⟩:∃ Y:Nat,Y = X * 4294967296:=⟨_,rfl⟩
        rw [← hY] at f1 f2
        clear hst hlt hlk hor e2 hY
        go_wp2
        exact ⟨⟨2,by go_num,by omega,by rw [← HG.out]⟩,by simp [intOf];omega⟩
    · have hkN:k = N:=by omega
      subst hkN
      rw [hN,List.take_length]
      obtain ⟨V,hV⟩:∃ V,V = val xs:=⟨_,rfl⟩
      rw [← hV]
      have i1:¬ ((k:Int) < (k:Int)):=by omega
      have HV:Hid (V = val xs):=hV
      clear HX hx hwx hN hV
      go_wp2
      exact bodyPost_ret (v:=.int .u64 (V:Int)) (by simp [results,Tryz.results151,go_sem] <;> simp only [*]) rfl ⟨by rw [HV.out],rfl⟩
theorem nword_ (p:Option Addr) (c:Nat) (xs:List Int) (w:World) (hx:Arr w p xs) (hwx:Wd xs) (lx:xs.length≤16777216) (hc:xs.length≤c) :
    Calls Tryz.prog 139 #[.slice p xs.length c] w fun e w'=>e = .returned (.tuple #[.int .u64 ((wordN (val xs)).1:Nat),.bool (wordN (val xs)).2])∧w' = w:=by
  have h1:=trim_ p c xs w hx (by omega) hc
  have e1:=tl_len xs hwx
  have h2:tl xs≤2→Calls Tryz.prog 151 #[.slice p (tl xs) c] w fun e w'=>e = .returned (.int .u64 (val xs:Nat))∧w' = w:=fun h=>by
    have:=lowest_ p c (nz xs) w (hx.take _) (hwx.take _) (by rw [nz_length];exact h)
    rw [nz_length,val_nz] at this
    exact this
  obtain ⟨a,ha⟩:∃ a,a = val xs:=⟨_,rfl⟩
  obtain ⟨N,hN⟩:∃ N,N = xs.length:=⟨_,rfl⟩
  obtain ⟨S,hS⟩:∃ S,S = tl xs:=⟨_,rfl⟩
  rw [← ha] at e1 h2 ⊢
  rw [← hN,← hS] at h1
  rw [← hS] at e1 h2
  rw [← hN]
  clear hx hwx lx hc ha hN hS
  by_cases cs:2 < S
  · have e2:wordN a = (0,false):=by unfold wordN;rw [if_pos (by omega)]
    rw [e2]
    have t1:(2:Int) < (S:Int):=by omega
    clear h2 e1 e2 cs
    go_enter Tryz.func139,Tryz.ntmps139
    go_wp2_with fail
    refine h1.mono ?_;rintro e w' ⟨rfl,hw'⟩;obtain rfl:=hw'.symm
    go_wp2
    exact bodyPost_ret (v:=.tuple #[.int .u64 0,.bool false]) (by simp [results,Tryz.results139,go_sem] <;> simp only [*]) rfl ⟨rfl,rfl⟩
  · have e2:wordN a = (a,true):=by unfold wordN;rw [if_neg (by omega)]
    rw [e2]
    have t1:¬ ((2:Int) < (S:Int)):=by omega
    have h3:=h2 (by omega)
    clear h2 e1 e2 cs
    go_enter Tryz.func139,Tryz.ntmps139
    go_wp2_with fail
    refine h1.mono ?_;rintro e w' ⟨rfl,hw'⟩;obtain rfl:=hw'.symm
    go_wp2_with fail
    refine h3.mono ?_;rintro e w' ⟨rfl,hw'⟩;obtain rfl:=hw'.symm
    go_wp2
    exact bodyPost_ret (v:=.tuple #[.int .u64 (a:Int),.bool true]) (by simp [results,Tryz.results139,go_sem] <;> simp only [*]) rfl ⟨rfl,rfl⟩
theorem Kb.trans {g:Nat} {a b c:World} (h:Kb g a b) (k:Kb g b c):Kb g a c :=
  ⟨k.1.trans h.1,k.2.1.trans h.2.1,k.2.2.1.trans h.2.2.1,Nat.le_trans h.2.2.2.1 k.2.2.2.1,fun j hj hg=>(k.2.2.2.2 j (Nat.lt_of_lt_of_le hj h.2.2.2.1) hg).trans (h.2.2.2.2 j hj hg)⟩
theorem takeOff_ (g n i c1 d:Nat) (q:Option Addr) (zs ys:List Int) (w:World) (hr:Rw w g n zs) (hzl:zs.length = n) (hwz:Wd zs) (hy:Arr w q ys) (hwy:Wd ys) (hq:0 < ys.length→∀ b off,q = some ⟨b,off,none⟩→b≠g) (hy2:2≤ys.length) (htop:2147483648≤(ys.getD (ys.length - 1) 0).toNat) (hin:i + ys.length + 1≤n) (hn:n≤16777216) (hcc:ys.length + 1≤c1) (hlt:val (zs.take (i + ys.length + 1)) < val ys * 4294967296 ^ (i + 1)) :
    Calls Tryz.prog 160 #[.slice (some ⟨g,i,none⟩) (ys.length + 1) c1,.slice q ys.length d] w fun e w'=>∃ us:List Int,e = .returned (.int .u32 ((val (zs.take (i + ys.length + 1)) / (val ys * 4294967296 ^ i):Nat):Int))∧Rw w' g n us∧us.length = n∧Wd us∧val (us.take (i + ys.length)) = val (zs.take (i + ys.length + 1)) % (val ys * 4294967296 ^ i)∧Kb g w w':=by
  obtain ⟨k,hk⟩:∃ k,ys.length = k + 2:=⟨ys.length - 2,by omega⟩
  have wz:=hwz (i + k + 2)
  have wz1:=hwz (i + k + 1)
  have wz0:=hwz (i + k)
  have wy1:=hwy (k + 1)
  have wy0:=hwy k
  obtain ⟨z,hz⟩:∃ z:Nat,(z:Int) = zs.getD (i + k + 2) 0:=⟨_,Int.toNat_of_nonneg wz.1⟩
  obtain ⟨y,hy9⟩:∃ y:Nat,(y:Int) = zs.getD (i + k + 1) 0:=⟨_,Int.toNat_of_nonneg wz1.1⟩
  obtain ⟨u0,hu0⟩:∃ u0:Nat,(u0:Int) = zs.getD (i + k) 0:=⟨_,Int.toNat_of_nonneg wz0.1⟩
  obtain ⟨v1,hv1⟩:∃ v1:Nat,(v1:Int) = ys.getD (k + 1) 0:=⟨_,Int.toNat_of_nonneg wy1.1⟩
  obtain ⟨v0,hv0⟩:∃ v0:Nat,(v0:Int) = ys.getD k 0:=⟨_,Int.toNat_of_nonneg wy0.1⟩
  have ht1:2147483648≤v1:=by
    rw [show ys.length - 1 = k + 1 from by omega,← hv1,Int.toNat_natCast] at htop
    exact htop
  have hV0:0 < val ys:=val_pos_top ys (k + 1) (by rw [← hv1,Int.toNat_natCast];omega)
  obtain ⟨hTA,hT1,hT2⟩:=head_fits zs ys hwz hwy i k u0 y z v1 v0 hk (by rw [← hu0];rfl) (by rw [← hy9];rfl) (by rw [← hz];rfl) (by rw [← hv0];rfl) (by rw [← hv1];rfl) ht1 hlt
  obtain ⟨b',off',rfl,hc'⟩:=hy.at (k:=k) (by omega)
  have hbg:=hq (by omega) b' off' rfl
  have htr:=trial_ (z * 4294967296 + y) u0 v1 v0 hTA
  obtain ⟨T,hT⟩:∃ T,T = trialN (z * 4294967296 + y) u0 v1 v0:=⟨_,rfl⟩
  have hT32:=trialN_lt (z * 4294967296 + y) u0 v1 v0
  rw [← hT] at htr hT1 hT2 hT32
  obtain ⟨hd,hhd⟩:∃ hd,hd = z * 4294967296 + y:=⟨_,rfl⟩
  rw [← hhd] at htr
  have e1:=World.rowIs.cell hr (i:=i + k + 2) (by omega)
  have e2:=World.rowIs.cell hr (i:=i + k + 1) (by omega)
  have e3:=World.rowIs.cell hr (i:=i + k) (by omega)
  have e4:=hc' (k + 1) (by omega)
  have e5:=hc' k (by omega)
  rw [← hz] at e1
  rw [← hy9] at e2
  rw [← hu0] at e3
  rw [← hv1] at e4
  rw [← hv0] at e5
  obtain ⟨S,hS⟩:∃ S,S = z * 4294967296:=⟨_,rfl⟩
  have f1:IntKind.u64.wrap (z:Int) = (z:Int):=by rw [IntKind.wrap_u64];omega
  have f2:IntKind.u64.wrap (y:Int) = (y:Int):=by rw [IntKind.wrap_u64];omega
  have f3:IntKind.u64.wrap ((z:Int) * 4294967296) = (S:Int):=by rw [IntKind.wrap_u64];omega
  have f4:bits BinOp.or IntKind.u64 (S:Int) (y:Int) = (hd:Int):=by
    rw [hS,bits_or_u64_nat (z * 4294967296) y (by omega) (by omega)]
    have e2:z * 4294967296 ||| y = hd:=by
      rw [Nat.or_comm,hhd]
      have:=or_low y z 32 (by omega)
      rw [show (2:Nat) ^ 32 = 4294967296 from rfl] at this
      omega
    rw [e2]
  have hsub:=fun (w':World) (h1:Rw w' g n zs) (h2:Arr w' (some ⟨b',off',none⟩) ys)=>subTimes_ g n i c1 d T (some ⟨b',off',none⟩) zs ys w' h1 hzl hwz h2 hwy hT32 hq hin hn hcc
  have hput:=fun (us:List Int) (w':World) (h1:Rw w' g n us) (h3:us.length = n) (h4:Wd us) (h2:Arr w' (some ⟨b',off',none⟩) ys)=>putBack_ g n i c1 d (some ⟨b',off',none⟩) us ys w' h1 h3 h4 h2 hwy hq hin hn hcc
  obtain ⟨M,hM⟩:∃ M,M = ys.length:=⟨_,rfl⟩
  obtain ⟨M1,hM1⟩:∃ M1,M1 = k + 1:=⟨_,rfl⟩
  rw [← hM] at hsub hput ⊢
  have a1:i + k + 2 = i + M:=by omega
  have a2:i + k + 1 = i + M1:=by omega
  rw [a1] at e1
  rw [a2] at e2
  rw [← hM1] at e4
  have g1:IntKind.i64.wrap ((M:Int) - 1) = (M1:Int):=by rw [IntKind.wrap_i64];omega
  have g2:IntKind.i64.wrap ((M:Int) - 2) = (k:Int):=by rw [IntKind.wrap_i64];omega
  have i0:(M:Int) < (M:Int) + 1:=by omega
  have i1:(M1:Int) < (M:Int) + 1:=by omega
  have i2:(k:Int) < (M:Int) + 1:=by omega
  have i3:(M1:Int) < (M:Int):=by omega
  have i4:(k:Int) < (M:Int):=by omega
  have HH:Hid (M = ys.length∧zs.length = n∧Wd zs∧Wd ys∧T < 4294967296∧0 < val ys∧val (zs.take (i + ys.length + 1)) / (val ys * 4294967296 ^ i)≤T∧T≤val (zs.take (i + ys.length + 1)) / (val ys * 4294967296 ^ i) + 1):=⟨hM,hzl,hwz,hwy,hT32,hV0,hT1,hT2⟩
  have HR:Hid (Rw w g n zs∧Arr w (some ⟨b',off',none⟩) ys):=⟨hr,hy⟩
  have HB:Hid (b'≠g):=hbg
  clear hr hzl hwz hwy hy hq hy2 htop hin hn hcc hlt hk wz wz1 wz0 wy1 wy0 hz hy9 hu0 hv1 hv0 ht1 hV0 hTA hT1 hT2 hc' hbg hT hT32 hhd hS hM hM1 a1 a2
  go_enter Tryz.func160,Tryz.ntmps160
  go_wp2
  go_region_held3 (fun w'=>w'.cell? ⟨g,i + M,none⟩ = some (.int .u32 (z:Int))∧w'.cell? ⟨g,i + M1,none⟩ = some (.int .u32 (y:Int))∧w'.cell? ⟨g,i + k,none⟩ = some (.int .u32 (u0:Int))∧w'.cell? ⟨b',off' + M1,none⟩ = some (.int .u32 (v1:Int))∧w'.cell? ⟨b',off' + k,none⟩ = some (.int .u32 (v0:Int))) (exact ⟨e1,e2,e3,e4,e5⟩) (first | (go_at_call 161;refine (htr _).mono ?_;rintro e w' ⟨rfl,rfl⟩))
  rename_i hHeld
  clear hHeld
  clear e1 e2 e3 e4 e5 htr f1 f2 f3 f4 g1 g2 i1 i2 i3 i4
  go_wp2_with fail
  refine (hsub w.drew.drew HR.out.1 HR.out.2).mono ?_
  rintro e w' ⟨O,bo,us,rfl,hR2,hul,hwu,hO,hbo,hv,hsam,hkb⟩
  obtain ⟨hM,hzl,hwz,hwy,hT32,hV0,hT1,hT2⟩:=HH.out
  have hkb2:Kb g w w':=hkb
  have hA2:Arr w' (some ⟨b',off',none⟩) ys:=Or.inr ⟨b',off',rfl,fun j hj=>by
    obtain ⟨b2,off2,e,hc⟩:=HR.out.2.at (k:=j) hj
    cases e
    exact hkb2.arr HB.out (hc j hj)⟩
  by_cases cz:(zs.getD (i + M) 0).toNat < O + bo
  · rw [decide_eq_true cz]
    have hpu:=hput us w' hR2 hul hwu hA2
    rw [hM] at hv hsam cz
    have hfin:=fun (C:Nat) (vs:List Int) (hl2:vs.length = us.length) (hwv:Wd vs) hs2 hv2=>off_back us vs zs ys i O bo T C (by omega) hl2 hwu hwv hwy hsam hv hV0 hT1 hT2 cz hs2 hv2
    obtain ⟨T',hT'⟩:∃ T',T' = T - 1:=⟨_,rfl⟩
    rw [← hM] at hfin
    have hT0:1≤T:=by
      by_cases e:T = 0
      · exfalso
        subst e
        have h1:=off_eq us zs ys i O bo 0 (by omega) hsam hv
        have h2:=val_take_lt us hwu (i + ys.length)
        have h3:((zs.getD (i + ys.length) 0).toNat + 1) * 4294967296 ^ (i + ys.length)≤(O + bo) * 4294967296 ^ (i + ys.length):=Nat.mul_le_mul_right _ cz
        rw [Nat.add_mul,Nat.one_mul] at h3
        rw [Nat.mul_zero,Nat.zero_mul] at h1
        omega
      · omega
    have fT:IntKind.u32.wrap ((T:Int) - 1) = (T':Int):=by rw [IntKind.wrap_u32];omega
    have HF:Hid (∀ (C:Nat) (vs:List Int),vs.length = us.length→Wd vs→(∀ j,i + M≤j→vs.getD j 0 = us.getD j 0)→val vs + C * 4294967296 ^ (i + M) = val us + val ys * 4294967296 ^ i→T' = val (zs.take (i + M + 1)) / (val ys * 4294967296 ^ i)∧val (vs.take (i + M)) = val (zs.take (i + M + 1)) % (val ys * 4294967296 ^ i)):=fun C vs a b c d=>by rw [hT'];exact (hfin C vs a b c d).2
    have HU:Hid (us.length = n∧Kb g w w'):=⟨hul,hkb2⟩
    clear hsub hput HH HR HB hM hzl hwz hwy hT32 hV0 hT1 hT2 hul hwu hO hbo hv hsam hkb hkb2 hA2 cz hfin hT' hT0 hR2 i0
    go_wp2_with fail
    refine hpu.mono ?_
    rintro e w2 ⟨C,vs,rfl,hRv,hvl,hwv,hvv,hvs,hkv⟩
    obtain ⟨hq1,hq2⟩:=HF.out C vs (by rw [hvl,HU.out.1]) hwv hvs hvv
    have hK:Kb g w w2:=HU.out.2.trans hkv
    have HQ:Hid (T' = val (zs.take (i + M + 1)) / (val ys * 4294967296 ^ i)∧val (vs.take (i + M)) = val (zs.take (i + M + 1)) % (val ys * 4294967296 ^ i)):=⟨hq1,hq2⟩
    clear hpu HF HU hvv hvs hkv hq1 hq2
    go_wp2
    exact bodyPost_ret (v:=.int .u32 (T':Int)) (by simp [results,Tryz.results160,go_sem]) rfl ⟨vs,by rw [HQ.out.1],hRv,hvl,hwv,HQ.out.2,hK⟩
  · rw [decide_eq_false cz]
    rw [hM] at hv hsam cz
    obtain ⟨hq1,hq2⟩:=off_right us zs ys i O bo T (by omega) hwu hwy hsam hv hV0 hT1 cz
    rw [← hM] at hq1 hq2
    have HQ:Hid (T = val (zs.take (i + M + 1)) / (val ys * 4294967296 ^ i)∧val (us.take (i + M)) = val (zs.take (i + M + 1)) % (val ys * 4294967296 ^ i)):=⟨hq1,hq2⟩
    clear hsub hput HH HR HB hM hzl hwz hwy hT32 hV0 hT1 hT2 hO hbo hv hsam hkb hA2 cz i0 hq1 hq2
    go_wp2
    exact bodyPost_ret (v:=.int .u32 (T:Int)) (by simp [results,Tryz.results160,go_sem]) rfl ⟨us,by rw [HQ.out.1],hR2,hul,hwu,HQ.out.2,hkb2⟩
end Go.Proofs.YtaidnpjgkkdloaaGreatDoor
