import Derived.Test.YtmpjcknaelgnoaaGreatDoorKLN
set_option maxHeartbeats 2000000
set_option maxRecDepth 20000
namespace Go.Proofs.YtmpjcknaelgnoaaGreatDoor
open Go.RowKit
theorem fresh_ (p:Option Addr) (c:Nat) (xs:List Int) (w:World) (hx:Arr w p xs) (lx:xs.length≤1099511627776) :
  Calls Tryz.prog 269 #[.slice p xs.length c] w fun e w'=>∃ g,e=.returned (.slice (some ⟨g,0,none⟩) xs.length xs.length)∧w.heap.size≤g∧Rw w' g xs.length xs∧Kp w w':=by
 obtain ⟨N,hN⟩:∃ N,N=xs.length:=⟨_,rfl⟩
 have hmk:=mk32 N (by omega)
 have hk1:Kp w (w.alloc (.cells (madeCells #[.int .u32 0] N) 120)):=(Kp.refl w).alloc _
 obtain ⟨w2,hcp,hr2,hkw⟩:=copy32 (w.alloc (.cells (madeCells #[.int .u32 0] N) 120)) w.heap.size N c p xs _ (World.rowIs_made w (.int .u32 0) N 120) (hx.grown hk1) (by omega)
 have hk2:Kp w w2:=hkw w (Nat.le_refl _) hk1
 have hrz:Rw w2 w.heap.size N xs:=World.rowIs.congr hr2 (fun j hj=>by rw [if_pos (by omega)])
 rw [← hN] at hcp ⊢
 clear hx lx hN hkw hr2 hk1
 go_enter Tryz.func269,Tryz.ntmps269
 go_wp2
 exact BR (v:=.slice (some ⟨w.heap.size,0,none⟩) N N) (by simp [results,Tryz.results269,go_sem] <;> simp only [*]) rfl ⟨_,rfl,Nat.le_refl _,hrz,hk2⟩
theorem sl32 (g k M n:Nat) (h:k+M≤n) (hk:k<n) (w:World):(Instr.slice 55 (.slice (some ⟨g,0,none⟩) n n) (some (.int .i64 (k:Int))) (some (.int .i64 ((k:Int)+(M:Int)))) none).run Tryz.prog w=.ok (.slice (some ⟨g,k,none⟩) M (n - k)) w:=by
 rw [run_slice_lh w 55 (some ⟨g,0,none⟩) n n Tryz.underlying55 .i64 .i64 (k:Int) ((k:Int)+(M:Int)) (by omega) (by omega) (by omega)]
 have e:(sizeOf (Tryz.prog.elem 55)).run Tryz.prog w=.ok 1 w:=by kernel_rfl
 have e2:((k:Int)+(M:Int)).toNat - k=M:=by omega
 have e3:¬ n=k:=by omega
 rw [e]
 simp [Result.andThen,sliced,e2,e3,Addr.add_lit]
theorem val_zeros (zs:List Int) (h:∀ j,zs.getD j 0=0):val zs=0:=by
 induction zs with
 | nil=>rfl
 | cons z r ih =>
   have h0:=h 0
   simp at h0
   have:=ih (fun j=>by have:=h (j+1);simpa using this)
   simp [val,h0,this]
theorem Wd_rep0 (n:Nat):Wd (List.replicate n (0:Int)):=by
 intro j
 by_cases c:j<n
 ·simp [List.getD,c]
 ·simp [List.getD,c]
theorem rep0_getD (n j:Nat):(List.replicate n (0:Int)).getD j 0=0:=by
 by_cases c:j<n
 ·simp [List.getD,c]
 ·simp [List.getD,c]
theorem product_ (p q:Option Addr) (c d:Nat) (xs ys:List Int) (w:World) (hx:Arr w p xs) (hy:Arr w q ys) (hwx:Wd xs) (hwy:Wd ys) (lx:xs.length≤16777216) (ly:ys.length≤16777216) :
  Calls Tryz.prog 250 #[.slice p xs.length c,.slice q ys.length d] w fun e w'=>∃ v,e=.returned v∧Own w' w.heap.size v (dig (val xs*val ys))∧Kp w w':=by
 obtain ⟨N,hN⟩:∃ N,N=xs.length:=⟨_,rfl⟩
 obtain ⟨M,hM⟩:∃ M,M=ys.length:=⟨_,rfl⟩
 obtain ⟨L,hL⟩:∃ L,L=N+M:=⟨_,rfl⟩
 have hmk:∀ w:World,(Instr.makeSlice 55 (.int .i64 ((N:Int)+(M:Int))) (.int .i64 ((N:Int)+(M:Int)))).run Tryz.prog w=.ok (.slice (some ⟨w.heap.size,0,none⟩) L L) (w.alloc (.cells (madeCells #[.int .u32 0] L) 120)):=by
  have:=mk32 L (by omega)
  have e:((L:Nat):Int)=(N:Int)+(M:Int):=by omega
  rw [e] at this
  exact this
 have hk1:Kp w (w.alloc (.cells (madeCells #[.int .u32 0] L) 120)):=(Kp.refl w).alloc _
 have hrz:Rw (w.alloc (.cells (madeCells #[.int .u32 0] L) 120)) w.heap.size L (List.replicate L 0):=World.rowIs.congr (World.rowIs_made w (.int .u32 0) L 120) (fun j _=>by rw [rep0_getD])
 obtain ⟨zs0,hz0⟩:∃ zs0,zs0=List.replicate L (0:Int):=⟨_,rfl⟩
 have hzl0:zs0.length=L:=by rw [hz0];simp
 have hwz0:Wd zs0:=by rw [hz0];exact Wd_rep0 _
 have hzz0:∀ j,zs0.getD j 0=0:=fun j=>by rw [hz0];exact rep0_getD _ _
 have hvz0:=val_zeros zs0 hzz0
 rw [← hz0] at hrz
 have HX:Hid (Arr w p xs∧Wd xs):=⟨hx,hwx⟩
 have HY:Hid (Arr w q ys∧Wd ys):=⟨hy,hwy⟩
 have HN:Hid (N=xs.length∧M=ys.length∧N≤16777216∧M≤16777216):=⟨hN,hM,by omega,by omega⟩
 obtain ⟨g,hg⟩:∃ g,g=w.heap.size:=⟨_,rfl⟩
 rw [← hg] at hrz
 have HG:Hid (g=w.heap.size):=hg
 have lN:N≤16777216:=by omega
 have lM:M≤16777216:=by omega
 rw [← hN,← hM]
 have hLN:L=N+M:=hL
 clear hx hy hwx hwy lx ly hN hM hz0 hL
 have HL:Hid (L=N+M):=hLN
 clear hLN
 go_enter Tryz.func250,Tryz.ntmps250
 go_wp2
 rw [← hg]
 clear hmk hg
 go_loopw [15] (fun i wr=>∃ (k:Nat) (zs:List Int),i=.int .i64 k∧k≤N∧Rw wr g L zs∧zs.length=L∧Wd zs∧val zs=val (xs.take k)*val ys∧(∀ j,k+M≤j→zs.getD j 0=0)∧Kp w wr) (fun i _=>N - (intOf i).toNat)
 case atStart=>exact ⟨0,zs0,rfl,Nat.zero_le _,hrz,hzl0,hwz0,by rw [hvz0];simp [val],fun j _=>hzz0 j,hk1⟩
 case round =>
  clear hrz hzl0 hwz0 hzz0 hvz0 hk1
  obtain ⟨k,zs,rfl,hk,hrow,hzl,hwz,hv,hzz,hkp⟩:=hrel
  obtain ⟨hN,hM,hn1,hm1⟩:=HN.out
  clear hn1 hm1
  have hLe:=HL.out
  by_cases ck:k<N
  ·obtain ⟨b,off,rfl,hc⟩:=HX.out.1.at (k:=k) (by omega)
   have e0:=hc k (by omega)
   have e1:=kkeep hkp e0
   have hbg:b≠g:=by have:=cell_lt e0;have:=HG.out;omega
   have wx:=HX.out.2 k
   have hrp:=row_prod xs k (val ys)
   obtain ⟨X,hX⟩:∃ X:Nat,(X:Int)=xs.getD k 0:=⟨(xs.getD k 0).toNat,by omega⟩
   rw [← hX] at e1 wx hrp
   rw [Int.toNat_natCast] at hrp
   have i0:(0:Int)≤(k:Int):=by omega
   have i1:(k:Int)<(N:Int):=by omega
   by_cases cX:X=0
   ·subst cX
    have hv2:val zs=val (xs.take (k+1))*val ys:=by rw [← hrp,hv];simp
    have t1:(((0:Nat):Int) != 0)=false:=by simp
    clear hc e0 HX HY HN HG hN hM hX wx hrp hbg hv HL hLe
    go_wp2
    exact ⟨⟨k+1,zs,by go_num,by omega,hrow,hzl,hwz,hv2,fun j hj=>hzz j (by omega),hkp⟩,by simp [intOf];omega⟩
   ·have t1:((X:Int) != 0)=true:=by simp;omega
    have hgw:w.heap.size≤g:=by rw [HG.out];exact Nat.le_refl _
    have hM0:0<ys.length→∀ b' off',q=some ⟨b',off',none⟩→b'≠g:=fun h0 b' off' e=>by
     obtain ⟨b2,o2,h1,h2⟩:=HY.out.1.at (k:=0) h0
     rw [h1] at e
     cases e
     have:=cell_lt (h2 0 h0)
     have:=HG.out
     omega
    have had:=fun w' (h:Kp wr w')=>addTimes_ g L k (L - k) d X q zs ys w' (hrow.grown h) hzl hwz (HY.out.1.grown (hkp.trans h)) HY.out.2 (by omega) hM0 (by omega) (by omega) (by omega)
    rw [← hM,hv,hrp] at had
    obtain ⟨E,hE⟩:∃ E,E=k+M:=⟨_,rfl⟩
    have fE:(k:Int)+(M:Int)=(E:Int):=by omega
    have i2:(k:Int)≤(E:Int):=by omega
    have i3:(E:Int)≤(L:Int):=by omega
    have i4:(E:Int)<(L:Int):=by omega
    have i5:(0:Int)≤(E:Int):=by omega
    have i7:¬ (L=k):=by omega
    have i8:E - k=M:=by omega
    have hsl:∀ w:World,(Instr.slice 55 (.slice (some ⟨g,0,none⟩) L L) (some (.int .i64 (k:Int))) (some (.int .i64 (E:Int))) none).run Tryz.prog w=.ok (.slice (some ⟨g,k,none⟩) M (L - k)) w:=by
     rw [← fE];exact sl32 g k M L (by omega) (by omega)
    rw [← hE] at had
    have hz0:=hzz E (by omega)
    have hkM:E<L:=by omega
    have hE9:(E:Int)<9223372036854775808:=by omega
    have fE1:=w64 (E:Int) i5 hE9
    have fE2:=wi64 (E:Int) i5 hE9
    have HE:Hid (E=k+M):=hE
    clear hc e0 HX HY HN hN hM hX wx hv hwz hM0 hrp hzl HL hLe hE
    go_wp2
    go_region_held3 (fun w'=>w'.cell? ⟨b,off+k,none⟩=some (.int .u32 (X:Int))) (first | (exact e1) | (exact hkb2.arr hbg e1) | (exact (World.cell?_setCell_far _ _ _ _ (Ne.symm hbg)).trans (hkb2.arr hbg e1))) (first | (go_at_call 272;refine (had _ (Kp.refl _).drew).mono ?_;rintro e w2 ⟨C,us,rfl,hR2,hl2,hw2,hC,hv2,hs2,hkb2⟩;have e3:=World.rowIs.cell hR2 (i:=E) hkM;have e4:=World.rowIs.frozen hR2 E))
    clear fE1 fE2 fE hE9 i5 i7 i8 hsl had
    have hE:=HE.out
    have hu0:us.getD E 0=0:=by rw [hs2 _ (Nat.le_refl _)];exact hz0
    have hvs:=val_set us E (C:Int) (by omega)
    rw [hu0,Int.toNat_natCast,hv2] at hvs
    have hv3:val (us.set E (C:Int))=val (xs.take (k+1))*val ys:=by simpa using hvs
    have hR:=hR2.set E (C:Int) (by omega)
    have hK:Kp w (w2.setCell ⟨g,E,none⟩ (.int .u32 (C:Int))):=(hkb2.kp (hkp.drew) hgw).setCell hgw _
    have hw3:Wd (us.set E (C:Int)):=hw2.set _ _ (by omega)
    have hl3:(us.set E (C:Int)).length=L:=by rw [List.length_set];exact hl2
    have hz3:∀ j,k+1+M≤j→(us.set E (C:Int)).getD j 0=0:=fun j hj=>by
     have e1:(us.set E (C:Int)).getD j 0=us.getD j 0:=by simp [List.getD,show ¬ E=j from by omega]
     rw [e1,hs2 j (by omega)]
     exact hzz j (by omega)
    clear HE hE e1 e3 e4 hv2 hvs hs2 hzz hkb2 hR2 hkp hrow
    go_wp2
    exact ⟨⟨k+1,us.set E (C:Int),by go_num,by omega,hR,hl3,hw3,hv3,hz3,hK⟩,by simp [intOf];omega⟩
  ·have hkN:k=N:=by omega
   subst hkN
   rw [hN,List.take_length] at hv
   have hA:=hrow.arr L (Nat.le_refl _) (by omega)
   rw [List.take_of_length_le (by omega)] at hA
   have htr:=trim_ (some ⟨g,0,none⟩) L zs wr hA (by omega) (by omega)
   have hO:Own wr w.heap.size (.slice (some ⟨g,0,none⟩) (tl zs) L) (dig (val xs*val ys)):=by
    have h1:=Own.of_row (base:=w.heap.size) (k:=tl zs) hrow (by rw [HG.out];exact Nat.le_refl _) (by have:=tl_le zs;omega) hzl (by unfold maxLen;omega)
    have h2:zs.take (tl zs)=dig (val xs*val ys):=by rw [← hv,← nz_dig zs hwz];rfl
    rw [h2] at h1
    exact h1
   rw [hzl] at htr
   obtain ⟨T,hT⟩:∃ T,T=tl zs:=⟨_,rfl⟩
   rw [← hT] at htr hO
   have i2:¬ ((k:Int)<(k:Int)):=by omega
   clear hA hrow hzl hwz hv hT HX HY HN HG hN hM hzz HL hLe
   go_wp2_with (first | (go_at_call 241;refine SM htr ?_))
   exact BR (v:=.slice (some ⟨g,0,none⟩) T L) (by simp [results,Tryz.results250,go_sem] <;> simp only [*]) rfl ⟨_,rfl,hO,hkp⟩
theorem sub32_ (x y b:Nat) (hx:x<4294967296) (hy:y<4294967296) (hb:b≤1) (w:World) :
  Calls Tryz.prog 270 #[.int .u32 (x:Int),.int .u32 (y:Int),.int .u32 (b:Int)] w fun e w'=>e=.returned (.tuple #[.int .u32 (((x+8589934592 - y - b) % 4294967296:Nat):Int),.int .u32 ((if x<y+b then 1 else 0:Nat):Int)])∧w'=w:=by
 obtain ⟨d,hd⟩:∃ d,d=(x+8589934592 - y - b) % 4294967296:=⟨_,rfl⟩
 have hs:=sub_borrow x y b d hx hy hb hd
 have hz:x ^^^ y<4294967296:=Nat.xor_lt_two_pow (n:=32) hx hy
 obtain ⟨B,hB⟩:∃ B:Nat,B=if x<y+b then 1 else 0:=⟨_,rfl⟩
 rw [← hd,← hB]
 rw [← hB] at hs
 obtain ⟨d1,hd1⟩:∃ d1:Nat,d1=(x+4294967296 - y) % 4294967296:=⟨_,rfl⟩
 have f1:IntKind.u32.wrap ((x:Int) - (y:Int))=(d1:Int):=by rw [IntKind.wrap_u32];omega
 have f2:IntKind.u32.wrap ((d1:Int) - (b:Int))=(d:Int):=by rw [IntKind.wrap_u32];omega
 have g1:=u32_xor_nat x y hx hy
 have g2:=u32_and_nat (4294967295 - x) y (by omega) hy
 have g3:=u32_and_nat (4294967295 - (x ^^^ y)) d (by omega) (by omega)
 have l1:(4294967295 - x) &&& y<4294967296:=Nat.and_lt_two_pow (n:=32) _ hy
 have l2:(4294967295 - (x ^^^ y)) &&& d<4294967296:=Nat.and_lt_two_pow (n:=32) _ (by omega)
 have g4:=u32_or_nat _ _ l1 l2
 obtain ⟨z,hzz⟩:∃ z,z=x ^^^ y:=⟨_,rfl⟩
 rw [← hzz] at g1 g3 g4 hs hz l2
 obtain ⟨nx,hnx⟩:∃ nx,nx=4294967295 - x:=⟨_,rfl⟩
 obtain ⟨nz',hnz⟩:∃ nz',nz'=4294967295 - z:=⟨_,rfl⟩
 rw [← hnx] at g2 g4 hs l1
 rw [← hnz] at g3 g4 hs l2
 have n1:bits BinOp.xor IntKind.u32 IntKind.u32.max (x:Int)=(nx:Int):=by
  have:=u32_xor_nat 4294967295 x (by omega) hx
  rw [not32 x hx,← hnx] at this
  exact this
 have n2:bits BinOp.xor IntKind.u32 IntKind.u32.max (z:Int)=(nz':Int):=by
  have:=u32_xor_nat 4294967295 z (by omega) hz
  rw [not32 z hz,← hnz] at this
  exact this
 obtain ⟨u1,hu1⟩:∃ u1,u1=nx &&& y:=⟨_,rfl⟩
 obtain ⟨u2,hu2⟩:∃ u2,u2=nz' &&& d:=⟨_,rfl⟩
 rw [← hu1] at g2 g4 hs
 rw [← hu2] at g3 g4 hs
 obtain ⟨u3,hu3⟩:∃ u3,u3=u1 ||| u2:=⟨_,rfl⟩
 rw [← hu3] at g4 hs
 have f3:(u3:Int) / 2147483648=(B:Int):=by omega
 clear hd hB hd1 hzz hnx hnz hu1 hu2 hu3 hs hx hy hb hz l1 l2
 go_enter Tryz.func270,Tryz.ntmps270
 go_wp2
 exact BR (v:=.tuple #[.int .u32 (d:Int),.int .u32 (B:Int)]) (by simp [results,Tryz.results270,go_sem] <;> simp only [*]) rfl ⟨rfl,rfl⟩
theorem rnorm_ (p:Option Addr) (c:Nat) (xs:List Int) (w:World) (hx:Arr w p xs) (lx:xs.length≤1099511627776) :
  Calls Tryz.prog 130 #[.slice p xs.length c] w fun e w'=>∃ v,e=.returned v∧Own w' w.heap.size v (nz xs)∧Kp w w':=by
 obtain ⟨N,hN⟩:∃ N,N=xs.length:=⟨_,rfl⟩
 rw [← hN] at lx ⊢
 have HX:Hid (Arr w p xs):=hx
 have HN:Hid (N=xs.length):=hN
 obtain ⟨T,hT⟩:∃ T,T=tl xs:=⟨_,rfl⟩
 have HT:Hid (tlAux xs N=T):=by rw [hT,hN];exact rfl
 have HT2:Hid (T≤N∧T=tl xs):=⟨by rw [hT,hN];exact tl_le xs,hT⟩
 obtain ⟨i0,hi0,hi1,hi2,hi3⟩:=inf32p
 clear hN hx hT
 go_enter Tryz.func130,Tryz.ntmps130
 go_wp2
 go_loop [3] (fun i=>∃ k:Nat,i=.int .i64 k∧k≤N∧tlAux xs k=T) (fun i=>(intOf i).toNat)
 case atStart=>exact ⟨N,rfl,Nat.le_refl _,HT.out⟩
 case round =>
  obtain ⟨k,rfl,hk,ht⟩:=hrel
  have hN:=HN.out
  have step2:k=0∨(∃ k',k=k'+1∧xs.getD k' 0=0)∨(∃ k',k=k'+1∧xs.getD k' 0≠0):=by
   rcases k with _ | k'
   ·exact Or.inl rfl
   ·by_cases cz:xs.getD k' 0=0
    ·exact Or.inr (Or.inl ⟨k',rfl,cz⟩)
    ·exact Or.inr (Or.inr ⟨k',rfl,cz⟩)
  rcases step2 with rfl | ⟨k,rfl,cz⟩ | ⟨k,rfl,cz⟩
  ·have hT0:T=0:=by rw [← ht];rfl
   subst hT0
   clear hN HN HX HT ht hk
   have hnz:nz xs=[]:=by unfold nz;rw [← HT2.out.2];rfl
   go_wp2
   go_loopw [4,5] (fun v i wr=>v=.slice none 0 0∧i=.int .i64 0∧wr=w) (fun _ _ _=>0)
   case atStart=>exact ⟨rfl,rfl,rfl⟩
   case round =>
    obtain ⟨rfl,rfl,rfl⟩:=hrel
    go_wp2
    exact BR (v:=.slice none 0 0) (by simp [results,Tryz.results130,go_sem] <;> simp only [*]) rfl ⟨_,rfl,by rw [hnz];exact Own.nil _ _,Kp.refl _⟩
  ·obtain ⟨b,off,rfl,hc'⟩:=HX.out.at (k:=k) (by omega)
   have e1:=hc' k (by omega)
   rw [tlAux_zero xs k cz] at ht
   rw [cz] at e1
   clear hN HN HX HT hc' HT2
   go_wp2
   exact ⟨⟨k,by go_num,by omega,ht⟩,by simp [intOf]⟩
  ·obtain ⟨b,off,rfl,hc'⟩:=HX.out.at (k:=k) (by omega)
   have e1:=hc' k (by omega)
   rw [tlAux_nz xs k cz] at ht
   obtain ⟨X,hX⟩:∃ X,X=xs.getD k 0:=⟨_,rfl⟩
   rw [← hX] at e1 cz
   have t1:(X == 0)=false:=by simp [cz]
   have HK:Hid (k+1=T):=ht
   clear hN HT hc' hX cz ht
   go_wp2
   go_loopw [4,5] (fun a i wr=>∃ (v:Value) (j:Nat),v=a∧j≤k+1∧i=.int .i64 j∧Own wr w.heap.size v (xs.take j)∧Kp w wr) (fun _ i _=>k+1 - (intOf i).toNat)
   case atStart=>exact ⟨_,0,rfl,Nat.zero_le _,rfl,by simpa using Own.nil w w.heap.size,Kp.refl _⟩
   case round =>
    obtain ⟨v,j,rfl,hj,rfl,hown,hkp⟩:=hrel
    obtain ⟨hTN,hTe⟩:=HT2.out
    have hKT:=HK.out
    have hN:=HN.out
    clear e1 t1
    by_cases cj:j<k+1
    ·obtain ⟨b2,off2,hb2,hc2⟩:=HX.out.at (k:=j) (by omega)
     obtain ⟨rfl,rfl⟩:b=b2∧off=off2:=by simpa using hb2
     have e2:=kkeep hkp (hc2 j (by omega))
     have hpush:=take_push xs j (by omega)
     have hob:=own_block hown
     have hlen:(xs.take j).length=j:=by rw [List.length_take];omega
     have hown':wr.ownsRow w.heap.size 120 1 v ((xs.take j).length) ((xs.take j).map (Value.int .u32)):=hown
     obtain ⟨Y,hY⟩:∃ Y,Y=xs.getD j 0:=⟨_,rfl⟩
     rw [← hY] at e2 hpush
     have hsz:=hkp.size
     clear hc2 hb2 hY hTe HX HN HT2 HK hown
     clear hN
     go_wp2_with (first | (at_builtin;refine wpList_append_own _ rfl _ _ 55 rfl w.heap.size 120 i0 (.int .u32 0) 1 4 Tryz.underlying55 hi0 hi1 hi2 hi3 rfl (by decide) _ _ _ rfl (hown'.alloc _) ⟨wr.heap.size,0,none⟩ 1 1 [.int .u32 Y] rfl rfl ?c1 ?c2 ?c3 ?c4 ?c5 ?_))
     case c1 =>
      intro j' u hj'
      match j',hj' with
      | 0,hj'=>simp at hj';subst hj';simp [Addr.add]
     case c2=>intro u hu;simp at hu;subst hu;rfl
     case c3=>unfold maxLen;omega
     case c4=>omega
     case c5=>simp;omega
     intro v' w1 hown2 hgrow _
     have hO:Own w1 w.heap.size v' (xs.take (j+1)):=by rw [← hpush];refine Own.push ?_;rw [hlen,List.map_take];exact hown2
     have hK2:Kp w w1:=(hkp.alloc _).grown hgrow hob
     clear hown2 hgrow hown' hkp hob e2 hsz hpush hlen
     go_wp2
     exact ⟨⟨_,j+1,rfl,by omega,by go_num,hO,hK2⟩,by simp [intOf];omega⟩
    ·have hjk:j=k+1:=by omega
     have hnz:nz xs=xs.take j:=by unfold nz;rw [← hTe,← hKT,hjk]
     clear hN HN HX HT2 HK hTe hTN hKT
     go_wp2
     exact BR (v:=v) (by simp [results,Tryz.results130,go_sem] <;> simp only [*]) rfl ⟨_,rfl,by rw [hnz];exact hown,hkp⟩
end Go.Proofs.YtmpjcknaelgnoaaGreatDoor
