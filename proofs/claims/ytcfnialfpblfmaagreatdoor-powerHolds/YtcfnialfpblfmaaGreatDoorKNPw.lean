import Derived.Test.YtcfnialfpblfmaaGreatDoorKLV
import Derived.Test.YtcfnialfpblfmaaGreatDoorKWTe
set_option maxHeartbeats 1000000
set_option maxRecDepth 20000
namespace Go.Proofs.YtcfnialfpblfmaaGreatDoor
open Go.RowKit
theorem npower_ (p:Option Addr) (c m:Nat) (xs:List Int) (w:World) (hx:Arr w p xs) (hn:xs=dig (val xs)) (lx:xs.length≤16384) (hc:xs.length≤c) (ha:2≤val xs) (hm:0<m) (hm2:m≤1048576) :
  Calls Tryz.prog 181 #[.slice p xs.length c,.int .i64 (m:Int)] w fun e w'=>∃ v,e=.returned (.tuple #[v,.int .i64 (if 16384<len32 (val xs ^ m) then 2 else 0)])∧Own w' w.heap.size v (if 16384<len32 (val xs ^ m) then [] else dig (val xs ^ m))∧Kp w w':=by
 have hfr:=fresh_ p c xs w hx (by omega)
 have hle:=lenu_ m (by omega)
 have htop:=top_one m (by omega)
 have hbm:=(blen_spec m (by omega)).2.2
 have hb20:=blen_lt m 21 (by omega)
 obtain ⟨a,hA⟩:∃ a,a=val xs:=⟨_,rfl⟩
 obtain ⟨L,hL⟩:∃ L,L=blen m:=⟨_,rfl⟩
 rw [← hL] at hle htop hbm hb20
 have hla:len32 a≤16384:=by rw [hA];unfold len32;rw [← hn];exact lx
 have hmul:∀ (i j:Nat) (p1 p2:Option Addr) (c1 c2:Nat) (w':World),len32 (a ^ i)≤16384→len32 (a ^ j)≤16384→Arr w' p1 (dig (a ^ i))→Arr w' p2 (dig (a ^ j))→(dig (a ^ i)).length≤c1→(dig (a ^ j)).length≤c2 →
   Calls Tryz.prog 142 #[.slice p1 (dig (a ^ i)).length c1,.slice p2 (dig (a ^ j)).length c2] w' fun e w''=>∃ v,e=.returned (.tuple #[v,.int .i64 (if 16384<len32 (a ^ (i+j)) then 2 else 0)])∧Own w'' w'.heap.size v (if 16384<len32 (a ^ (i+j)) then [] else dig (a ^ (i+j)))∧Kp w' w'':=fun i j p1 p2 c1 c2 w' hi hj h1 h2 hc1 hc2=>by
  have e1:(dig (a ^ i)).length=len32 (a ^ i):=rfl
  have e2:(dig (a ^ j)).length=len32 (a ^ j):=rfl
  have:=nmul_ p1 p2 c1 c2 (dig (a ^ i)) (dig (a ^ j)) w' h1 h2 (Wd_dig _) (Wd_dig _) (by omega) (by omega) hc1 hc2
  rw [val_dig,val_dig,mulN_short _ _ hi hj,← Nat.pow_add] at this
  by_cases q:16384<len32 (a ^ (i+j))
  ·rw [if_pos q] at this ⊢;rw [if_pos q];exact this
  ·rw [if_neg q] at this ⊢;rw [if_neg q];exact this
 have hxs:xs=dig (a ^ 1):=by rw [Nat.pow_one,hA];exact hn
 rw [hxs] at hfr
 rw [← hA] at ha ⊢
 have HX:Hid (Arr w p (dig (a ^ 1))∧xs.length=(dig (a ^ 1)).length∧(dig (a ^ 1)).length≤c):=⟨by rw [← hxs];exact hx,by rw [← hxs],by rw [← hxs];exact hc⟩
 have HM:Hid (∀ (i j:Nat) (p1 p2:Option Addr) (c1 c2:Nat) (w':World),len32 (a ^ i)≤16384→len32 (a ^ j)≤16384→Arr w' p1 (dig (a ^ i))→Arr w' p2 (dig (a ^ j))→(dig (a ^ i)).length≤c1→(dig (a ^ j)).length≤c2 →
   Calls Tryz.prog 142 #[.slice p1 (dig (a ^ i)).length c1,.slice p2 (dig (a ^ j)).length c2] w' fun e w''=>∃ v,e=.returned (.tuple #[v,.int .i64 (if 16384<len32 (a ^ (i+j)) then 2 else 0)])∧Own w'' w'.heap.size v (if 16384<len32 (a ^ (i+j)) then [] else dig (a ^ (i+j)))∧Kp w' w''):=hmul
 obtain ⟨N,hN⟩:∃ N,N=xs.length:=⟨_,rfl⟩
 have hN2:(dig (a ^ 1)).length=N:=by rw [hN,← hxs]
 have hl1:len32 (a ^ 1)≤16384:=by rw [Nat.pow_one];exact hla
 rw [hN2] at hfr
 rw [← hN]
 have HA:Hid (2≤a∧len32 (a ^ 1)≤16384∧(dig (a ^ 1)).length=N∧m / 2 ^ (L - 1)=1):=⟨ha,hl1,hN2,htop⟩
 have f1:IntKind.u64.wrap (m:Int)=(m:Int):=by rw [IntKind.wrap_u64];omega
 obtain ⟨RE,hRE⟩:∃ RE:Int,RE=if 16384<len32 (a ^ m) then 2 else 0:=⟨_,rfl⟩
 obtain ⟨RL,hRL⟩:∃ RL:List Int,RL=if 16384<len32 (a ^ m) then [] else dig (a ^ m):=⟨_,rfl⟩
 rw [← hRE,← hRL]
 have HR:Hid ((16384<len32 (a ^ m)→RE=2∧RL=[])∧(¬ 16384<len32 (a ^ m)→RE=0∧RL=dig (a ^ m))):=⟨fun h=>by rw [hRE,hRL,if_pos h,if_pos h];exact ⟨rfl,rfl⟩,fun h=>by rw [hRE,hRL,if_neg h,if_neg h];exact ⟨rfl,rfl⟩⟩
 clear hRE hRL
 clear hx hn lx hc hmul hL hN hxs hA hl1 htop hla ha hN2
 go_enter Tryz.func181,Tryz.ntmps181
 go_wp2_with fail
 refine hfr.mono ?_;rintro e w1 ⟨g,rfl,hg,hrow,hk1⟩
 have HO:Hid (Own w1 w.heap.size (.slice (some ⟨g,0,none⟩) N N) (dig (a ^ 1))):=by
  have h1:=Own.of_row (base:=w.heap.size) (k:=N) hrow hg (Nat.le_refl _) HA.out.2.2.1 (by
   have:(dig (a ^ 1)).length=len32 (a ^ 1):=rfl
   have:=HA.out.2.1
   have:=HA.out.2.2.1
   unfold maxLen;omega)
  rw [List.take_of_length_le (by have:=HA.out.2.2.1;omega)] at h1
  exact h1
 clear hfr hrow hg
 go_wp2_with fail
 refine SM (hle _) ?_
 go_wp2
 go_loopw [6,7,8] (fun o e z wr=>∃ (v:Value) (b:Nat) (y:Int),v=o∧z=.int .i64 y∧y=(b:Int) - 1∧b<L∧Kp w wr∧((e=.int .i64 0∧Own wr w.heap.size v (dig (a ^ (m / 2 ^ b)))∧len32 (a ^ (m / 2 ^ b))≤16384)∨(e=.int .i64 2∧Own wr w.heap.size v []∧16384<len32 (a ^ m)))) (fun _ _ z _=>(intOf z+1).toNat)
 case atStart=>exact ⟨_,L - 1,_,rfl,rfl,by omega,by omega,hk1,Or.inl ⟨rfl,by rw [HA.out.2.2.2];exact HO.out,by rw [HA.out.2.2.2];exact HA.out.2.1⟩⟩
 case round =>
  clear hk1 HO hle
  obtain ⟨v,b,y,rfl,rfl,hy,hbL,hkp,hst⟩:=hrel
  obtain ⟨ha,hl1,hN2,htop⟩:=HA.out
  rcases hst with ⟨rfl,hown,hlen⟩ | ⟨rfl,hown,hlong⟩
  ·rcases b with _ | b
   ·have hy1:y = -1:=by omega
    subst hy1
    rw [Nat.pow_zero,Nat.div_one] at hown hlen
    have hno:¬ 16384<len32 (a ^ m):=by omega
    obtain ⟨hr1,hr2⟩:=HR.out.2 hno
    subst hr1 hr2
    clear HA HX HM hl1 hN2 htop hy hlen hno ha HR
    go_wp2
    exact BR (v:=.tuple #[v,.int .i64 0]) (by simp [results,Tryz.results181,go_sem] <;> simp only [*]) rfl ⟨_,rfl,hown,hkp⟩
   ·have hy1:y=(b:Int):=by omega
    subst hy1
    clear hy
    have hst2:=pow_step a m b
    rw [← Nat.pow_add] at hst2
    have hib:m / 2 ^ (b+1)+m / 2 ^ (b+1)≤m:=by
     have e:m / 2 ^ (b+1)*2≤m / 2 ^ b:=by rw [Nat.pow_succ,← Nat.div_div_eq_div_mul];omega
     have:=Nat.div_le_self m (2 ^ b)
     omega
    have hbm2:=Nat.div_le_self m (2 ^ b)
    obtain ⟨i,hi⟩:∃ i,i=m / 2 ^ (b+1):=⟨_,rfl⟩
    rw [← hi] at hst2 hown hlen hib
    obtain ⟨p1,c1,rfl,hA1,hc1⟩:=hown.arr
    have h1:=HM.out _ _ p1 p1 c1 c1 wr hlen hlen hA1 hA1 hc1 hc1
    obtain ⟨D,hD⟩:∃ D,D=(dig (a ^ i)).length:=⟨_,rfl⟩
    rw [← hD] at h1 ⊢
    obtain ⟨q,hq⟩:∃ q,q=m / 2 ^ b:=⟨_,rfl⟩
    rw [← hq] at hst2 hbm2
    have fS:(m:Int) / 2 ^ b=(q:Int):=by
     rw [hq];push_cast;rfl
    have fA:=and1_i64 q (by omega)
    obtain ⟨r,hr⟩:∃ r,r=q % 2:=⟨_,rfl⟩
    rw [← hr] at fA hst2
    have hr01:r=0∨r=1:=by omega
    have hqi:i+i+r=q:=by
     have e:m / 2 ^ (b+1)=q / 2:=by rw [Nat.pow_succ,← Nat.div_div_eq_div_mul,hq]
     rw [e] at hi
     omega
    clear hA1 hc1 hown HA hD hi hr
    by_cases q1:16384<len32 (a ^ (i+i))
    ·rw [if_pos q1,if_pos q1] at h1
     have hlong:16384<len32 (a ^ m):=Nat.lt_of_lt_of_le q1 (pow_mono_len a _ _ ha hib)
     have HLo:Hid (16384<len32 (a ^ m)):=hlong
     clear HM HX hst2 q1 hl1 hN2 htop hlong hib hbm2 ha hlen hm hqi
     go_wp2_with fail
     refine h1.mono ?_;rintro e w2 ⟨v2,rfl,hO2,hk2⟩
     clear h1
     have hO3:Own w2 w.heap.size v2 []:=hO2.mono hkp.size
     have hk3:=hkp.trans hk2
     have hbL2:b<L:=by omega
     clear hO2 hk2 hkp hq hbL
     rcases hr01 with rfl | rfl
     ·go_wp2
      exact ⟨⟨v2,b,_,rfl,by go_num,rfl,hbL2,hk3,Or.inr ⟨rfl,hO3,HLo.out⟩⟩,by simp [intOf]⟩
     ·go_wp2
      exact ⟨⟨v2,b,_,rfl,by go_num,rfl,hbL2,hk3,Or.inr ⟨rfl,hO3,HLo.out⟩⟩,by simp [intOf]⟩
    ·rw [if_neg q1,if_neg q1] at h1
     have HX2:Hid (∀ p2 c2 w',Kp w w'→Arr w' p2 (dig (a ^ (i+i)))→(dig (a ^ (i+i))).length≤c2→Calls Tryz.prog 142 #[.slice p2 (dig (a ^ (i+i))).length c2,.slice p N c] w' fun e w''=>∃ v,e=.returned (.tuple #[v,.int .i64 (if 16384<len32 (a ^ (i+i+1)) then 2 else 0)])∧Own w'' w'.heap.size v (if 16384<len32 (a ^ (i+i+1)) then [] else dig (a ^ (i+i+1)))∧Kp w' w''):=by
      show ∀ p2 c2 w',Kp w w'→Arr w' p2 (dig (a ^ (i+i)))→(dig (a ^ (i+i))).length≤c2→Calls Tryz.prog 142 #[.slice p2 (dig (a ^ (i+i))).length c2,.slice p N c] w' fun e w''=>∃ v,e=.returned (.tuple #[v,.int .i64 (if 16384<len32 (a ^ (i+i+1)) then 2 else 0)])∧Own w'' w'.heap.size v (if 16384<len32 (a ^ (i+i+1)) then [] else dig (a ^ (i+i+1)))∧Kp w' w''
      intro p2 c2 w' k h2 hc2
      have:=HM.out (i+i) 1 p2 p c2 c w' (by omega) hl1 h2 (HX.out.1.grown k) hc2 HX.out.2.2
      rw [hN2] at this
      exact this
     have HE:Hid (r=0→i+i=q):=fun h=>by omega
     have HE1:Hid (r=1→i+i+1=q):=fun h=>by omega
     have HQ:Hid (¬ 16384<len32 (a ^ (i+i))∧q=m / 2 ^ b∧q≤m∧2≤a):=⟨q1,hq,hbm2,ha⟩
     clear HM HX hst2 q1 hl1 hN2 htop hib hbm2 ha hlen hm hq hqi
     go_wp2_with fail
     refine h1.mono ?_;rintro e w2 ⟨v2,rfl,hO2,hk2⟩
     clear h1
     have hO3:Own w2 w.heap.size v2 (dig (a ^ (i+i))):=hO2.mono hkp.size
     have hk3:=hkp.trans hk2
     have hbL2:b<L:=by omega
     clear hO2 hk2 hkp hbL
     rcases hr01 with rfl | rfl
     ·have he:=HE.out rfl
      have hO4:Own w2 w.heap.size v2 (dig (a ^ (m / 2 ^ b))):=by rw [← HQ.out.2.1,← he];exact hO3
      have hl4:len32 (a ^ (m / 2 ^ b))≤16384:=by rw [← HQ.out.2.1,← he];have:=HQ.out.1;omega
      have HH:Hid (Own w2 w.heap.size v2 (dig (a ^ (m / 2 ^ b)))∧len32 (a ^ (m / 2 ^ b))≤16384):=⟨hO4,hl4⟩
      clear HE HE1 HX2 hO3 hO4 hl4 he HQ
      go_wp2
      exact ⟨⟨v2,b,_,rfl,by go_num,rfl,hbL2,hk3,Or.inl ⟨rfl,HH.out.1,HH.out.2⟩⟩,by simp [intOf]⟩
     ·have he:=HE1.out rfl
      obtain ⟨p2,c2,rfl,hA2,hc2⟩:=hO3.arr
      have h2:=HX2.out p2 c2 w2 hk3 hA2 hc2
      obtain ⟨D2,hD2⟩:∃ D2,D2=(dig (a ^ (i+i))).length:=⟨_,rfl⟩
      rw [← hD2] at h2 ⊢
      rw [he] at h2
      clear HE HE1 HX2 hO3 hA2 hc2 hD2 he
      by_cases q2:16384<len32 (a ^ q)
      ·rw [if_pos q2,if_pos q2] at h2
       have HLo:Hid (16384<len32 (a ^ m)):=Nat.lt_of_lt_of_le q2 (pow_mono_len a _ _ HQ.out.2.2.2 HQ.out.2.2.1)
       clear HQ q2
       go_wp2_with fail
       refine h2.mono ?_;rintro e w3 ⟨v3,rfl,hO5,hk5⟩
       clear h2
       have hO6:Own w3 w.heap.size v3 []:=hO5.mono hk3.size
       have hk6:=hk3.trans hk5
       clear hO5 hk5 hk3
       go_wp2
       exact ⟨⟨v3,b,_,rfl,by go_num,rfl,hbL2,hk6,Or.inr ⟨rfl,hO6,HLo.out⟩⟩,by simp [intOf]⟩
      ·rw [if_neg q2,if_neg q2] at h2
       have HLo:Hid (len32 (a ^ q)≤16384):=by show len32 (a ^ q)≤16384;omega
       clear q2
       go_wp2_with fail
       refine h2.mono ?_;rintro e w3 ⟨v3,rfl,hO5,hk5⟩
       clear h2
       have hO6:Own w3 w.heap.size v3 (dig (a ^ (m / 2 ^ b))):=by rw [← HQ.out.2.1];exact hO5.mono hk3.size
       have hl6:len32 (a ^ (m / 2 ^ b))≤16384:=by rw [← HQ.out.2.1];exact HLo.out
       have HH:Hid (Own w3 w.heap.size v3 (dig (a ^ (m / 2 ^ b)))∧len32 (a ^ (m / 2 ^ b))≤16384):=⟨hO6,hl6⟩
       have hk6:=hk3.trans hk5
       clear hO5 hk5 hk3 hO6 hl6 HLo HQ
       go_wp2
       exact ⟨⟨v3,b,_,rfl,by go_num,rfl,hbL2,hk6,Or.inl ⟨rfl,HH.out.1,HH.out.2⟩⟩,by simp [intOf]⟩
  ·obtain ⟨hr1,hr2⟩:=HR.out.1 hlong
   subst hr1 hr2
   clear HA HX HM hl1 hN2 htop HR ha hlong
   rcases b with _ | b
   ·have hy1:y = -1:=by omega
    subst hy1
    clear hy
    go_wp2
    exact BR (v:=.tuple #[v,.int .i64 2]) (by simp [results,Tryz.results181,go_sem] <;> simp only [*]) rfl ⟨_,rfl,hown,hkp⟩
   ·have hy1:y=(b:Int):=by omega
    subst hy1
    clear hy
    go_wp2
    exact BR (v:=.tuple #[v,.int .i64 2]) (by simp [results,Tryz.results181,go_sem] <;> simp only [*]) rfl ⟨_,rfl,hown,hkp⟩
theorem npow_ (p:Option Addr) (c:Nat) (xs:List Int) (w:World) (n:Int) (hx:Arr w p xs) (hwx:Wd xs) (lx:xs.length≤16777216) (hc:xs.length≤c) :
  Calls Tryz.prog 150 #[.slice p xs.length c,.int .i64 n] w fun e w'=>∃ v,e=.returned (.tuple #[v,.int .i64 (powN (val xs) n).2])∧Own w' w.heap.size v (powN (val xs) n).1∧Kp w w':=by
 have h1:=trim_ p c xs w hx (by omega) hc
 have h2:=tooLong_ p (tl xs) c
 have h3:=nsmall_ 1 (by omega) w
 have lS:=tl_le xs
 have h4:=nlen_ p c (nz xs) w (hx.take _) (hwx.take _) (by rw [nz_length];omega) (by rw [nz_length];omega)
 have h5:=fresh_ p c (nz xs) w (hx.take _) (by rw [nz_length];omega)
 have hnn:nz xs=dig (val (nz xs)):=by rw [val_nz];exact nz_dig xs hwx
 have h6:=fun (m:Nat) a b c' d'=>npower_ p c m (nz xs) w (hx.take _) hnn a (by rw [nz_length];omega) b c' d'
 rw [nz_length,val_nz] at h4 h6
 rw [nz_length] at h5
 have e1:=tl_len xs hwx
 have e2:=nz_dig xs hwx
 rw [e2] at h5
 obtain ⟨a,ha⟩:∃ a,a=val xs:=⟨_,rfl⟩
 rw [← ha] at h4 h5 h6 e1
 obtain ⟨N,hN⟩:∃ N,N=xs.length:=⟨_,rfl⟩
 obtain ⟨S,hS⟩:∃ S,S=tl xs:=⟨_,rfl⟩
 rw [← hN,← hS] at h1
 rw [← hS] at h2 h4 h5 h6 e1 lS
 rw [← hN,← ha]
 have lS2:S≤16777216:=by omega
 clear hx hwx lx hc hN hS ha lS hnn e2
 by_cases c0:n<0
 ·have e3:powN a n=([],1):=by unfold powN;rw [if_pos c0]
  rw [e3]
  clear h2 h3 h4 h5 h6 e1 e3
  go_enter Tryz.func150,Tryz.ntmps150
  go_wp2_with fail
  refine SM h1 ?_
  go_wp2
  exact BR (v:=.tuple #[.slice none 0 0,.int .i64 1]) (by simp [results,Tryz.results150,go_sem] <;> simp only [*]) rfl ⟨_,rfl,Own.nil _ _,Kp.refl _⟩
 obtain ⟨m,rfl⟩:=Int.eq_ofNat_of_zero_le (by omega:0≤n)
 by_cases c1:16384<S
 ·have e3:powN a (m:Int)=([],2):=by unfold powN;rw [if_neg c0,if_pos (by omega)]
  rw [e3]
  rw [decide_eq_true c1] at h2
  clear h3 h4 h5 h6 e1 e3 c1
  go_enter Tryz.func150,Tryz.ntmps150
  go_wp2_with fail
  refine SM h1 ?_
  go_wp2_with fail
  refine SM (h2 _) ?_
  go_wp2
  exact BR (v:=.tuple #[.slice none 0 0,.int .i64 2]) (by simp [results,Tryz.results150,go_sem] <;> simp only [*]) rfl ⟨_,rfl,Own.nil _ _,Kp.refl _⟩
 rw [decide_eq_false c1] at h2
 have e0:powN a (m:Int)=if 16384<len32 (a ^ m) then ([],2) else (dig (a ^ m),0):=by unfold powN;rw [if_neg c0,if_neg (by omega),Int.toNat_natCast]
 rw [e0]
 clear e0 c0
 have t0:¬ ((m:Int)<0):=by omega
 by_cases c2:m=0
 ·subst c2
  have e3:¬ 16384<len32 (a ^ 0):=by rw [Nat.pow_zero,len32_one];omega
  rw [if_neg e3,Nat.pow_zero]
  clear h4 h5 h6 e1 e3 c1
  go_enter Tryz.func150,Tryz.ntmps150
  go_wp2_with fail
  refine SM h1 ?_
  go_wp2_with fail
  refine SM (h2 _) ?_
  go_wp2_with fail
  refine h3.mono ?_;rintro e w1 ⟨v,rfl,hO,hk⟩
  go_wp2
  exact BR (v:=.tuple #[v,.int .i64 0]) (by simp [results,Tryz.results150,go_sem] <;> simp only [*]) rfl ⟨_,rfl,hO,hk⟩
 have t2:((m:Int) == 0)=false:=by simp;omega
 obtain ⟨L,hL⟩:∃ L,L=blen a:=⟨_,rfl⟩
 rw [← hL] at h4
 have hLb:=blen_len a 16384 (by omega)
 rw [← hL] at hLb
 by_cases c3:L≤1
 ·have e3:=pow_small a m (by omega) (by omega)
  have e4:¬ 16384<len32 a:=by omega
  rw [e3,if_neg e4]
  have t3:(L:Int)≤1:=by omega
  have hO0:∀ g w1,w.heap.size≤g→Rw w1 g S (dig a)→Own w1 w.heap.size (.slice (some ⟨g,0,none⟩) S S) (dig a):=fun g w1 hg hr=>by
   have hd:(dig a).length=S:=by rw [e1];rfl
   have h1:=Own.of_row (base:=w.heap.size) (k:=S) hr hg (Nat.le_refl _) hd (by unfold maxLen;omega)
   rw [List.take_of_length_le (by omega)] at h1
   exact h1
  clear h3 h6 e3 e4 c1 c2 hL e1 hLb
  go_enter Tryz.func150,Tryz.ntmps150
  go_wp2_with fail
  refine SM h1 ?_
  go_wp2_with fail
  refine SM (h2 _) ?_
  go_wp2_with fail
  refine SM h4 ?_
  go_wp2_with fail
  refine h5.mono ?_;rintro e w1 ⟨g,rfl,hg,hrow,hk⟩
  have hO:=hO0 g w1 hg hrow
  clear hO0 hrow hg
  go_wp2
  exact BR (v:=.tuple #[.slice (some ⟨g,0,none⟩) S S,.int .i64 0]) (by simp [results,Tryz.results150,go_sem] <;> simp only [*]) rfl ⟨_,rfl,hO,hk⟩
 have t3:¬ ((L:Int)≤1):=by omega
 obtain ⟨q,hq⟩:∃ q,q=524287 / (L - 1):=⟨_,rfl⟩
 obtain ⟨K,hK⟩:∃ K,K=L - 1:=⟨_,rfl⟩
 have hqK:(524287:Int).tdiv (K:Int)=(q:Int):=by
  rw [hq,← hK]
  exact tdiv_nat 524287 K
 have f1:(L:Int) - 1=(K:Int):=by omega
 have f2:¬ ((K:Int)=0):=by omega
 have f3:((K:Int) == 0)=false:=by simp;omega
 have hK9:(K:Int)<9223372036854775808:=by omega
 have f4:=w64 (K:Int) (by omega) hK9
 have f5:=wi64 (K:Int) (Int.natCast_nonneg _) hK9
 have hq8:(q:Int)<9223372036854775808:=by
  have:q≤524287:=by rw [hq];exact Nat.div_le_self _ _
  omega
 have f6:=w64 (q:Int) (Int.natCast_nonneg _) hq8
 have f7:=wi64 (q:Int) (Int.natCast_nonneg _) hq8
 have HF:Hid (wrap64 (q:Int)=(q:Int)∧IntKind.i64.wrap (q:Int)=(q:Int)∧wrap64 (K:Int)=(K:Int)∧IntKind.i64.wrap (K:Int)=(K:Int)):=⟨f6,f7,f4,f5⟩
 clear f4 f5 f6 f7 hq8
 by_cases c4:q<m
 ·have c5:16384<len32 (a ^ m):=pow_long a m 16384 (by omega) (by rw [← hL];exact div_long L m q hq (by omega) c4)
  rw [if_pos c5]
  have t4:(q:Int)<(m:Int):=by omega
  obtain ⟨f6,f7,f4,f5⟩:=HF.out
  clear h3 h5 h6 c1 c2 c3 c4 c5 hL e1 hq hLb lS2 hK hK9 HF
  go_enter Tryz.func150,Tryz.ntmps150
  go_wp2_with fail
  refine SM h1 ?_
  go_wp2_with fail
  refine SM (h2 _) ?_
  go_wp2_with fail
  refine SM h4 ?_
  go_wp2_with fail
  refine SM h4 ?_
  go_wp2
  exact BR (v:=.tuple #[.slice none 0 0,.int .i64 2]) (by simp [results,Tryz.results150,go_sem] <;> simp only [*]) rfl ⟨_,rfl,Own.nil _ _,Kp.refl _⟩
 have t4:¬ ((q:Int)<(m:Int)):=by omega
 have hq9:q≤524287:=by rw [hq];exact Nat.div_le_self _ _
 have h7:=h6 m (by omega) (two_le a (by omega)) (by omega) (by omega)
 obtain ⟨f6,f7,f4,f5⟩:=HF.out
 clear HF
 clear h3 h5 h6 c1 c2 c3 c4 hL e1 hq hLb lS2 hK hK9 hq9
 by_cases c5:16384<len32 (a ^ m)
 ·rw [if_pos c5,if_pos c5] at h7
  rw [if_pos c5]
  clear c5
  go_enter Tryz.func150,Tryz.ntmps150
  go_wp2_with fail
  refine SM h1 ?_
  go_wp2_with fail
  refine SM (h2 _) ?_
  go_wp2_with fail
  refine SM h4 ?_
  go_wp2_with fail
  refine SM h4 ?_
  go_wp2_with fail
  refine h7.mono ?_;rintro e w1 ⟨v,rfl,hO,hk⟩
  go_wp2
  exact BR (v:=.tuple #[v,.int .i64 2]) (by simp [results,Tryz.results150,go_sem] <;> simp only [*]) rfl ⟨_,rfl,hO,hk⟩
 ·rw [if_neg c5,if_neg c5] at h7
  rw [if_neg c5]
  clear c5
  go_enter Tryz.func150,Tryz.ntmps150
  go_wp2_with fail
  refine SM h1 ?_
  go_wp2_with fail
  refine SM (h2 _) ?_
  go_wp2_with fail
  refine SM h4 ?_
  go_wp2_with fail
  refine SM h4 ?_
  go_wp2_with fail
  refine h7.mono ?_;rintro e w1 ⟨v,rfl,hO,hk⟩
  go_wp2
  exact BR (v:=.tuple #[v,.int .i64 0]) (by simp [results,Tryz.results150,go_sem] <;> simp only [*]) rfl ⟨_,rfl,hO,hk⟩
theorem power_ (d:Int) (s:Bool) (a k:Nat) (ea N:Int) (va:Value) (w:World) (hT:Tab w) (hQ:Fq.Tab w) (hd1:-9223372036854775808≤d) (hd2:d<9223372036854775808) (ha:Ls w va (dig a)) (la:a<9007199254740992) (ea1:-1074≤ea) (ea2:ea≤2048) (hk0:0<k) (hk:k≤1024) (hN:N=(k:Int)∨N = -(k:Int)) :
  Calls Tryz.prog 123 #[.agg #[.bool s,va,.int .i64 ea],.int .i64 d,.int .i64 N] w fun e w'=>e=.returned (.float .f64 (if N<0 then ratW d (s && decide (k % 2=1)) 1 (a ^ k) (ea*N) else ofW d (s && decide (k % 2=1)) (a ^ k) (ea*N)))∧Kp w w':=by
 obtain ⟨pa,ca,rfl,ha,hca⟩:=ha
 obtain ⟨La,hLa⟩:∃ La,La=(dig a).length:=⟨_,rfl⟩
 rw [← hLa]
 obtain ⟨B,hB⟩:∃ B,B=w.heap.size:=⟨_,rfl⟩
 obtain ⟨w0,hw0⟩:∃ w0,w0=w.alloc (.cells #[.bool s,.slice pa La ca,.int .i64 ea] 105):=⟨_,rfl⟩
 have hk9:Kp w w0:=by rw [hw0];exact (Kp.refl w).alloc _
 obtain ⟨x0,x1,x2⟩:w0.cell? ⟨B,0,none⟩=some (.bool s)∧w0.cell? ⟨B,1,none⟩=some (.slice pa La ca)∧w0.cell? ⟨B,2,none⟩=some (.int .i64 ea):=by rw [hw0,hB];simp [go_sem]
 have lp:=pow_len a k la hk
 have lsa:len32 a≤2:=dlen a 2 (by
  have:blen a≤53:=by rw [blen_le_iff,show (2:Nat) ^ 53=9007199254740992 from by decide];exact la
  omega)
 have hp:=npow_ pa ca (dig a) w0 (k:Int) (ha.grown hk9) (Wd_dig a) (by change len32 a≤_;omega) hca
 rw [val_dig,← hLa] at hp
 have hpN:powN a (k:Int)=(dig (a ^ k),0):=by
  unfold powN
  rw [if_neg (by omega),if_neg (by omega),show ((k:Int)).toNat=k from by omega,if_neg (by omega)]
 rw [hpN] at hp
 obtain ⟨q1,q2⟩:=odd_i N k hN
 obtain ⟨ob,hob⟩:∃ ob,ob=decide (k % 2=1):=⟨_,rfl⟩
 rw [← hob] at q1 q2 ⊢
 have we:wrap64 (ea*N)=ea*N:=by
  refine w64x _ ?_ ?_
  ·have h1:(ea*N).natAbs≤2048*1024:=by rw [Int.natAbs_mul];exact Nat.mul_le_mul (by omega) (by omega)
   omega
  ·have h1:(ea*N).natAbs≤2048*1024:=by rw [Int.natAbs_mul];exact Nat.mul_le_mul (by omega) (by omega)
   omega
 have we2:IntKind.i64.wrap (ea*N)=ea*N:=by
  have h1:(ea*N).natAbs≤2048*1024:=by rw [Int.natAbs_mul];exact Nat.mul_le_mul (by omega) (by omega)
  simp [IntKind.wrap,IntKind.bits,IntKind.signed];omega
 have HO:Hid (∀ (pv:Option Addr) (cv:Nat) (w1:World),Kp w0 w1→Arr w1 pv (dig (a ^ k))→(dig (a ^ k)).length≤cv→Calls Tryz.prog 143 #[.int .i64 d,.bool (s && ob),.slice pv (dig (a ^ k)).length cv,.int .i64 (ea*N)] w1 fun e w'=>e=.returned (.float .f64 (ofW d (s && ob) (a ^ k) (ea*N)))∧Kp w1 w'):=fun pv cv w1 kk ar ll=>by
  have h:=pof_ d (s && ob) pv cv (dig (a ^ k)) (ea*N) w1 (hT.grown (hk9.trans kk)) (Fq.Tab.grown hQ (hk9.trans kk)) hd1 hd2 ar (Wd_dig _) (by change len32 _≤_;omega) ll
  rw [val_dig] at h
  exact h
 have HRt:Hid (∀ (pv:Option Addr) (cv:Nat) (ps:Option Addr) (cs:Nat) (w1:World),Kp w0 w1→Arr w1 pv (dig (a ^ k))→(dig (a ^ k)).length≤cv→Arr w1 ps (dig 1)→(dig 1).length≤cs→Calls Tryz.prog 151 #[.int .i64 d,.bool (s && ob),.slice ps (dig 1).length cs,.slice pv (dig (a ^ k)).length cv,.int .i64 (ea*N)] w1 fun e w'=>e=.returned (.float .f64 (ratW d (s && ob) 1 (a ^ k) (ea*N)))∧Kp w1 w'):=fun pv cv ps cs w1 kk ar ll ar' ll'=>by
  have h:=prat_ d (s && ob) ps pv cs cv (dig 1) (dig (a ^ k)) (ea*N) w1 (Fq.Tab.grown hQ (hk9.trans kk)) hd1 hd2 ar' ar (Wd_dig _) (Wd_dig _) (by rw [dig_one];decide) (by change len32 _≤_;omega) ll' ll
  rw [val_dig,val_dig] at h
  exact h
 have HW:Hid (w0=w.alloc (.cells #[.bool s,.slice pa La ca,.int .i64 ea] 105)∧B=w.heap.size∧Kp w w0):=⟨hw0,hB,hk9⟩
 have HS:Hid (∀ w1:World,Calls Tryz.prog 141 #[.int .u64 1] w1 fun e w'=>∃ r,e=.returned r∧Own w' w1.heap.size r (dig 1)∧Kp w1 w'):=fun w1=>nsmall_ 1 (by decide) w1
 clear hw0 hB hk9 ha hca hLa la lp lsa hpN hT hQ hd1 hd2 hob
 by_cases c:N<0
 ·rw [if_pos c]
  have HN:Hid (-N=(k:Int)):=(by omega:-N=(k:Int))
  have cb:decide (N<0)=true:=decide_eq_true c
  have bN:-1024≤N∧N≤1024:=by omega
  obtain ⟨bN1,bN2⟩:=bN
  clear hN hk0 hk HO
  obtain ⟨st,hst⟩:∃ st,st=(s && ob):=⟨_,rfl⟩
  rw [← hst] at HRt ⊢
  obtain ⟨Z,hZ⟩:∃ Z,Z=ratW d st 1 (a ^ k) (ea*N):=⟨_,rfl⟩
  rw [← hZ] at HRt ⊢
  clear hZ
  cases s
  ·rw [show (false && ob)=false from rfl] at hst
   subst hst
   clear q1 q2
   go_enter Tryz.func123,Tryz.ntmps123
   go_wp2_with fail
   rw [← HW.out.2.1]
   try rw [← HW.out.1]
   try go_wp2_with fail
   rw [HN.out]
   refine hp.mono ?_;rintro e w1 ⟨v,rfl,ho,k1⟩
   obtain ⟨pv,cv,rfl,hav,hcv⟩:=ho.arr
   have HR:Hid (∀ (vs:Value) (W:World),Kp w1 W→Ls W vs (dig 1)→Calls Tryz.prog 151 #[.int .i64 d,.bool false,vs,.slice pv (dig (a ^ k)).length cv,.int .i64 (ea*N)] W fun e w'=>e=.returned (.float .f64 Z)∧Kp W w'):=fun vs W kk ⟨ps,cs,e9,ar,ll⟩=>by
    subst e9
    exact HRt.out pv cv ps cs W (k1.trans kk) (hav.grown kk) hcv ar ll
   obtain ⟨LV,hLV⟩:∃ LV,LV=(dig (a ^ k)).length:=⟨_,rfl⟩
   rw [← hLV] at HR ⊢
   replace x2:=kkeep k1 x2
   have kk:=HW.out.2.2.trans k1
   clear hp ho hav hcv hLV k1 HRt
   go_upto_region 4 with fail
   go_region_held3 (fun w'=>w'.cell? ⟨B,2,none⟩=some (.int .i64 ea)) ((refine kkeep (W:=w1) ?_ x2;((repeat (first | with_reducible exact kB | with_reducible exact kA | with_reducible exact Kp.refl _ | with_reducible refine Kp.drew ?_));done))) (first | (go_at_call 151;have hh:=o1;refine (HR.out _ _ ?q1 ?q2).mono ?_;(case q1=>((repeat (first | with_reducible exact kB | with_reducible exact kA | with_reducible exact Kp.refl _ | with_reducible refine Kp.drew ?_));done));(case q2=>exact hls);rintro e v2 ⟨rfl,k12⟩;have kB:Kp w1 v2:=Kp.trans ?q3 k12;(case q3=>((repeat (first | with_reducible exact kB | with_reducible exact kA | with_reducible exact Kp.refl _ | with_reducible refine Kp.drew ?_));done))) | (go_at_call 141;refine (HS.out _).mono ?_;rintro e v1 ⟨vs,rfl,o1,k01⟩;have kA:Kp w1 v1:=Kp.trans ?q4 k01;(case q4=>((repeat (first | with_reducible exact kB | with_reducible exact kA | with_reducible exact Kp.refl _ | with_reducible refine Kp.drew ?_));done));have hls:=o1.ls;obtain ⟨ps,cs,rfl,as_,ls_⟩:=o1.arr))
   have k02:=kk.trans kB
   clear kk kB kA k01 k12 HR HS o1 hls as_ ls_
   go_wp2
   exact BR (v:=.float .f64 Z) (by simp [results,Tryz.results123,go_sem]) rfl ⟨rfl,k02⟩
  ·rw [show (true && ob)=ob from rfl] at hst
   subst hst
   go_enter Tryz.func123,Tryz.ntmps123
   go_wp2_with fail
   rw [← HW.out.2.1]
   try rw [← HW.out.1]
   try go_wp2_with fail
   rw [HN.out]
   refine hp.mono ?_;rintro e w1 ⟨v,rfl,ho,k1⟩
   obtain ⟨pv,cv,rfl,hav,hcv⟩:=ho.arr
   have HR:Hid (∀ (vs:Value) (W:World),Kp w1 W→Ls W vs (dig 1)→Calls Tryz.prog 151 #[.int .i64 d,.bool st,vs,.slice pv (dig (a ^ k)).length cv,.int .i64 (ea*N)] W fun e w'=>e=.returned (.float .f64 Z)∧Kp W w'):=fun vs W kk ⟨ps,cs,e9,ar,ll⟩=>by
    subst e9
    exact HRt.out pv cv ps cs W (k1.trans kk) (hav.grown kk) hcv ar ll
   obtain ⟨LV,hLV⟩:∃ LV,LV=(dig (a ^ k)).length:=⟨_,rfl⟩
   rw [← hLV] at HR ⊢
   replace x2:=kkeep k1 x2
   have kk:=HW.out.2.2.trans k1
   clear hp ho hav hcv hLV k1 HRt
   go_upto_region 4 with fail
   go_region_held3 (fun w'=>w'.cell? ⟨B,2,none⟩=some (.int .i64 ea)) ((refine kkeep (W:=w1) ?_ x2;((repeat (first | with_reducible exact kB | with_reducible exact kA | with_reducible exact Kp.refl _ | with_reducible refine Kp.drew ?_));done))) (first | (go_at_call 151;have hh:=o1;refine (HR.out _ _ ?q1 ?q2).mono ?_;(case q1=>((repeat (first | with_reducible exact kB | with_reducible exact kA | with_reducible exact Kp.refl _ | with_reducible refine Kp.drew ?_));done));(case q2=>exact hls);rintro e v2 ⟨rfl,k12⟩;have kB:Kp w1 v2:=Kp.trans ?q3 k12;(case q3=>((repeat (first | with_reducible exact kB | with_reducible exact kA | with_reducible exact Kp.refl _ | with_reducible refine Kp.drew ?_));done))) | (go_at_call 141;refine (HS.out _).mono ?_;rintro e v1 ⟨vs,rfl,o1,k01⟩;have kA:Kp w1 v1:=Kp.trans ?q4 k01;(case q4=>((repeat (first | with_reducible exact kB | with_reducible exact kA | with_reducible exact Kp.refl _ | with_reducible refine Kp.drew ?_));done));have hls:=o1.ls;obtain ⟨ps,cs,rfl,as_,ls_⟩:=o1.arr))
   have k02:=kk.trans kB
   clear kk kB kA k01 k12 HR HS o1 hls as_ ls_
   go_wp2
   exact BR (v:=.float .f64 Z) (by simp [results,Tryz.results123,go_sem]) rfl ⟨rfl,k02⟩
 ·rw [if_neg c]
  have eN:N=(k:Int):=by omega
  subst eN
  have q3:((k:Int) % 2 != 0)=ob:=by rw [← Int.tmod_eq_emod_of_nonneg (by omega)];exact q1
  clear hN HRt HS
  obtain ⟨st,hst⟩:∃ st,st=(s && ob):=⟨_,rfl⟩
  rw [← hst] at HO ⊢
  obtain ⟨Z,hZ⟩:∃ Z,Z=ofW d st (a ^ k) (ea*(k:Int)):=⟨_,rfl⟩
  rw [← hZ] at HO ⊢
  clear hZ
  cases s
  ·rw [show (false && ob)=false from rfl] at hst
   subst hst
   clear q1 q2 q3
   go_enter Tryz.func123,Tryz.ntmps123
   go_wp2_with fail
   rw [← HW.out.2.1]
   try rw [← HW.out.1]
   try go_wp2_with fail
   refine hp.mono ?_;rintro e w1 ⟨v,rfl,ho,k1⟩
   obtain ⟨pv,cv,rfl,hav,hcv⟩:=ho.arr
   have hr:=HO.out pv cv w1 k1 hav hcv
   obtain ⟨LV,hLV⟩:∃ LV,LV=(dig (a ^ k)).length:=⟨_,rfl⟩
   rw [← hLV] at hr ⊢
   replace x2:=kkeep k1 x2
   have kk:=HW.out.2.2.trans k1
   clear hp ho hav hcv hLV k1 HO
   go_wp2_with fail
   refine hr.mono ?_;rintro e w2 ⟨rfl,k2⟩
   have k02:=kk.trans k2
   clear hr kk k2
   go_wp2
   exact BR (v:=.float .f64 Z) (by simp [results,Tryz.results123,go_sem]) rfl ⟨rfl,k02⟩
  ·rw [show (true && ob)=ob from rfl] at hst
   subst hst
   go_enter Tryz.func123,Tryz.ntmps123
   go_wp2_with fail
   rw [← HW.out.2.1]
   try rw [← HW.out.1]
   try go_wp2_with fail
   refine hp.mono ?_;rintro e w1 ⟨v,rfl,ho,k1⟩
   obtain ⟨pv,cv,rfl,hav,hcv⟩:=ho.arr
   have hr:=HO.out pv cv w1 k1 hav hcv
   obtain ⟨LV,hLV⟩:∃ LV,LV=(dig (a ^ k)).length:=⟨_,rfl⟩
   rw [← hLV] at hr ⊢
   replace x2:=kkeep k1 x2
   have kk:=HW.out.2.2.trans k1
   clear hp ho hav hcv hLV k1 HO
   go_wp2_with fail
   refine hr.mono ?_;rintro e w2 ⟨rfl,k2⟩
   have k02:=kk.trans k2
   clear hr kk k2
   go_wp2
   exact BR (v:=.float .f64 Z) (by simp [results,Tryz.results123,go_sem]) rfl ⟨rfl,k02⟩
theorem powInf_ (n:Bool) (N:Int) (k:Nat) (hN:N=(k:Int)∨N = -(k:Int)) (w:World):Calls Tryz.prog 121 #[.float .f64 (Fq.wD n 9218868437227405312),.int .i64 N] w fun e w'=>e=.returned (.float .f64 (if N<0 then 0 else Fq.wD (n && decide (k % 2=1)) 9218868437227405312))∧w'=w:=by
 have ha:=abs_ n 9218868437227405312 (by decide) w
 obtain ⟨q1,q2⟩:=odd_i N k hN
 obtain ⟨X,hX⟩:∃ X,X=Fq.wD n 9218868437227405312:=⟨_,rfl⟩
 by_cases c:N<0
 ·rw [if_pos c,← hX]
  clear ha q1 q2 hX hN
  go_enter Tryz.func121,Tryz.ntmps121
  go_wp2
  exact BR (v:=.float .f64 0) (by simp [results,Tryz.results121,go_sem]) rfl ⟨rfl,rfl⟩
 ·rw [if_neg c]
  have eN:N=(k:Int):=by omega
  subst eN
  have q3:((k:Int) % 2 == 0) = !decide (k % 2=1):=by rw [← Int.tmod_eq_emod_of_nonneg (by omega)];exact q2
  by_cases c2:k % 2=1
  ·rw [decide_eq_true c2,Bool.and_true,← hX]
   rw [decide_eq_true c2] at q2 q3
   simp only [Bool.not_true] at q2 q3
   clear ha q1 hX hN c2
   go_enter Tryz.func121,Tryz.ntmps121
   go_wp2
   exact BR (v:=.float .f64 X) (by simp [results,Tryz.results121,go_sem]) rfl ⟨rfl,rfl⟩
  ·rw [decide_eq_false c2,Bool.and_false,show Fq.wD false 9218868437227405312=9218868437227405312 from rfl]
   rw [decide_eq_false c2] at q2 q3
   simp only [Bool.not_false] at q2 q3
   rw [← hX] at ha ⊢
   clear q1 hX hN c2
   go_enter Tryz.func121,Tryz.ntmps121
   go_wp2_with fail
   refine SM ha ?_;clear ha
   go_wp2
   exact BR (v:=.float .f64 9218868437227405312) (by simp [results,Tryz.results121,go_sem]) rfl ⟨rfl,rfl⟩
theorem ppow0_ (d:Int) (n:Bool) (m:Nat) (hm:m≤9218868437227405312) (w:World) :
  Calls Tryz.prog 85 #[.int .i64 d,.float .f64 (Fq.wD n m),.int .i64 0] w fun e w'=>e=.returned (.float .f64 4607182418800017408)∧Kp w w':=by
 have h1:=isNaN_ n m (by omega) w
 rw [decide_eq_false (by omega)] at h1
 obtain ⟨X,hX⟩:∃ X,X=Fq.wD n m:=⟨_,rfl⟩
 rw [← hX] at h1 ⊢
 clear hX hm
 go_enter Tryz.func85,Tryz.ntmps85
 go_wp2_with fail
 refine SM h1 ?_;clear h1
 go_wp2
 exact BR (v:=.float .f64 4607182418800017408) (by simp [results,Tryz.results85,go_sem]) rfl ⟨rfl,Kp.refl _⟩
theorem ppowI_ (d:Int) (n:Bool) (m:Nat) (N:Int) (k:Nat) (hm:m=9218868437227405312) (h1':-1024≤N) (h2':N≤1024) (h0:N≠0) (hk:N=(k:Int)∨N = -(k:Int)) (w:World) :
  Calls Tryz.prog 85 #[.int .i64 d,.float .f64 (Fq.wD n m),.int .i64 N] w fun e w'=>e=.returned (.float .f64 (if N<0 then 0 else Fq.wD (n && decide (k % 2=1)) 9218868437227405312))∧Kp w w':=by
 have h1:=isNaN_ n m (by omega) w
 rw [decide_eq_false (by omega)] at h1
 have g1:=finite_ n m (by omega) w
 rw [decide_eq_false (by omega)] at g1
 have h2:=powInf_ n N k hk w
 rw [← hm] at h2
 obtain ⟨R,hR⟩:∃ R,R=(if N<0 then 0 else Fq.wD (n && decide (k % 2=1)) m):=⟨_,rfl⟩
 rw [← hm,← hR]
 rw [← hR] at h2
 obtain ⟨X,hX⟩:∃ X,X=Fq.wD n m:=⟨_,rfl⟩
 rw [← hX] at h1 g1 h2 ⊢
 have t0:(N == 0)=false:=by simp [h0]
 have t1:¬ (N < -1024):=by omega
 have t2:¬ (1024<N):=by omega
 clear hX hm hR hk h1' h2' h0
 go_enter Tryz.func85,Tryz.ntmps85
 go_wp2_with fail
 refine SM h1 ?_;clear h1
 go_wp2_with fail
 refine SM g1 ?_;clear g1
 go_wp2_with fail
 refine SM h2 ?_;clear h2
 go_wp2
 exact BR (v:=.float .f64 R) (by simp [results,Tryz.results85,go_sem]) rfl ⟨rfl,Kp.refl _⟩
theorem ppow1_ (d:Int) (n:Bool) (m:Nat) (hm:m<9218868437227405312) (w:World) :
  Calls Tryz.prog 85 #[.int .i64 d,.float .f64 (Fq.wD n m),.int .i64 1] w fun e w'=>e=.returned (.float .f64 (Fq.wD (n && !(m == 0)) m))∧Kp w w':=by
 have h1:=isNaN_ n m (by omega) w
 rw [decide_eq_false (by omega)] at h1
 have g1:=finite_ n m (by omega) w
 rw [decide_eq_true hm] at g1
 have h2:=Fq.plain_d n m (by omega) w
 obtain ⟨R,hR⟩:∃ R,R=Fq.wD (n && !(m == 0)) m:=⟨_,rfl⟩
 rw [← hR] at h2 ⊢
 obtain ⟨X,hX⟩:∃ X,X=Fq.wD n m:=⟨_,rfl⟩
 rw [← hX] at h1 g1 h2 ⊢
 clear hX hm hR
 go_enter Tryz.func85,Tryz.ntmps85
 go_wp2_with fail
 refine SM h1 ?_;clear h1
 go_wp2_with fail
 refine SM g1 ?_;clear g1
 go_wp2_with fail
 refine SM h2 ?_;clear h2
 go_wp2
 exact BR (v:=.float .f64 R) (by simp [results,Tryz.results85,go_sem]) rfl ⟨rfl,Kp.refl _⟩
theorem ppow2_ (d:Int) (n:Bool) (m:Nat) (hm:m<9218868437227405312) (R:Nat) (w:World) (h2:Calls Tryz.prog 81 #[.int .i64 d,.float .f64 (Fq.wD n m),.float .f64 (Fq.wD n m)] w fun e w'=>e=.returned (.float .f64 R)∧Kp w w') :
  Calls Tryz.prog 85 #[.int .i64 d,.float .f64 (Fq.wD n m),.int .i64 2] w fun e w'=>e=.returned (.float .f64 R)∧Kp w w':=by
 have h1:=isNaN_ n m (by omega) w
 rw [decide_eq_false (by omega)] at h1
 have g1:=finite_ n m (by omega) w
 rw [decide_eq_true hm] at g1
 obtain ⟨X,hX⟩:∃ X,X=Fq.wD n m:=⟨_,rfl⟩
 rw [← hX] at h1 g1 h2 ⊢
 clear hX hm
 go_enter Tryz.func85,Tryz.ntmps85
 go_wp2_with fail
 refine SM h1 ?_;clear h1
 go_wp2_with fail
 refine SM g1 ?_;clear g1
 go_wp2_with fail
 refine h2.mono ?_;rintro e w1 ⟨rfl,k1⟩;clear h2
 go_wp2
 exact BR (v:=.float .f64 R) (by simp [results,Tryz.results85,go_sem]) rfl ⟨rfl,k1⟩
theorem ppowM_ (d:Int) (n:Bool) (m:Nat) (hm:m<9218868437227405312) (R:Nat) (w:World) (h2:Calls Tryz.prog 122 #[.int .i64 d,.float .f64 4607182418800017408,.float .f64 (Fq.wD n m)] w fun e w'=>e=.returned (.float .f64 R)∧Kp w w') :
  Calls Tryz.prog 85 #[.int .i64 d,.float .f64 (Fq.wD n m),.int .i64 (-1)] w fun e w'=>e=.returned (.float .f64 R)∧Kp w w':=by
 have h1:=isNaN_ n m (by omega) w
 rw [decide_eq_false (by omega)] at h1
 have g1:=finite_ n m (by omega) w
 rw [decide_eq_true hm] at g1
 obtain ⟨X,hX⟩:∃ X,X=Fq.wD n m:=⟨_,rfl⟩
 rw [← hX] at h1 g1 h2 ⊢
 clear hX hm
 go_enter Tryz.func85,Tryz.ntmps85
 go_wp2_with fail
 refine SM h1 ?_;clear h1
 go_wp2_with fail
 refine SM g1 ?_;clear g1
 go_wp2_with fail
 refine h2.mono ?_;rintro e w1 ⟨rfl,k1⟩;clear h2
 go_wp2
 exact BR (v:=.float .f64 R) (by simp [results,Tryz.results85,go_sem]) rfl ⟨rfl,k1⟩
theorem ppowG_ (d:Int) (n:Bool) (m:Nat) (N:Int) (k:Nat) (hm:m<9218868437227405312) (h1':-1024≤N) (h2':N≤1024) (h0:N≠0) (hk:N=(k:Int)∨N = -(k:Int)) (n1:N≠1) (n2:N≠2) (n3:N≠-1) (w:World) (hT:Tab w) (hQ:Fq.Tab w) (hd1:-9223372036854775808≤d) (hd2:d<9223372036854775808) :
  Calls Tryz.prog 85 #[.int .i64 d,.float .f64 (Fq.wD n m),.int .i64 N] w fun e w'=>e=.returned (.float .f64 (if m=0 then (if N<0 then 9218868437227405312 else 0) else if N<0 then dnW d (n && decide (k % 2=1)) (Fq.vV Ieee.double m) k else upW d (n && decide (k % 2=1)) (Fq.vV Ieee.double m) k))∧Kp w w':=by
 have h1:=isNaN_ n m (by omega) w
 rw [decide_eq_false (by omega)] at h1
 have g1:=finite_ n m (by omega) w
 rw [decide_eq_true hm] at g1
 obtain ⟨a,ea,a1,a2,a3,a4,ta⟩:=take_ n m hm
 have hk0:0<k:=by omega
 have hk9:k≤1024:=by omega
 have lp:=pow_len a k a4 hk9
 obtain ⟨R,hR⟩:∃ R,R=(if m=0 then (if N<0 then 9218868437227405312 else 0) else if N<0 then dnW d (n && decide (k % 2=1)) (Fq.vV Ieee.double m) k else upW d (n && decide (k % 2=1)) (Fq.vV Ieee.double m) k):=⟨_,rfl⟩
 have hom:(if N<0 then ratW d ((n && !(m == 0)) && decide (k % 2=1)) 1 (a ^ k) (ea*N) else ofW d ((n && !(m == 0)) && decide (k % 2=1)) (a ^ k) (ea*N))=R:=by
  rw [hR]
  by_cases z:m=0
  ·have za:a=0:=by
    rw [(vV_zero m).2 z] at a1
    rcases Nat.mul_eq_zero.1 a1 with h | h
    ·exact h
    ·have:=Nat.two_pow_pos (ea+1074).toNat;omega
   have zk:a ^ k=0:=by rw [za];exact Nat.zero_pow hk0
   rw [if_pos z,zk,show (n && !(m == 0))=false from by simp [z]]
   by_cases c:N<0
   ·rw [if_pos c,if_pos c]
    unfold ratW
    rw [if_neg (by rw [len32_one,show len32 0=0 from by unfold len32;rw [dig_zero];rfl];omega),if_pos rfl,if_neg (by decide)]
    rfl
   ·rw [if_neg c,if_neg c,of_rat]
    unfold ratW
    rw [if_neg (by rw [len32_one,show len32 0=0 from by unfold len32;rw [dig_zero];rfl];omega),if_neg (by decide),if_pos rfl]
  ·have za:a≠0:=fun h=>by rw [h,Nat.zero_mul] at a1;exact z ((vV_zero m).1 a1.symm)
   rw [if_neg z,show (n && !(m == 0))=n from by simp [z],← a1]
   by_cases c:N<0
   ·rw [if_pos c,if_pos c]
    exact dn_rat d _ a _ k ea N za (by omega) (by omega) lp
   ·rw [if_neg c,if_neg c]
    have eN:N=(k:Int):=by omega
    rw [eN]
    exact up_rat d _ a _ k ea za (by omega) lp
 obtain ⟨s,hs⟩:∃ s,s=(n && !(m == 0)):=⟨_,rfl⟩
 rw [← hs] at ta hom
 have hp:∀ (va:Value) (w1:World),Kp w w1→Ls w1 va (dig a)→Calls Tryz.prog 123 #[.agg #[.bool s,va,.int .i64 ea],.int .i64 d,.int .i64 N] w1 fun e w'=>e=.returned (.float .f64 R)∧Kp w1 w':=fun va w1 k1 l1=>by
  rw [← hom];exact power_ d s a k ea N va w1 (hT.grown k1) (Fq.Tab.grown hQ k1) hd1 hd2 l1 a4 a2 a3 hk0 hk9 hk
 have ta1:=ta w hQ
 rw [← hR]
 obtain ⟨X,hX⟩:∃ X,X=Fq.wD n m:=⟨_,rfl⟩
 rw [← hX] at h1 g1 ta1 ⊢
 have t0:(N == 0)=false:=by simp [h0]
 have t1:¬ (N < -1024):=by omega
 have t2:¬ (1024<N):=by omega
 have t3:(N == 1)=false:=by simp [n1]
 have t4:(N == 2)=false:=by simp [n2]
 have t5:(N == -1)=false:=by simp [n3]
 clear hX hm hR hom hk h1' h2' h0 n1 n2 n3 a1 a2 a3 a4 ta hs lp hk0 hk9 hT hQ hd1 hd2
 go_enter Tryz.func85,Tryz.ntmps85
 go_wp2_with fail
 refine SM h1 ?_;clear h1
 go_wp2_with fail
 refine SM g1 ?_;clear g1
 go_wp2_with fail
 refine ta1.mono ?_;rintro e w1 ⟨va,rfl,lva,k1⟩
 have hp1:=hp va w1 k1 lva
 clear ta1 hp lva
 go_wp2_with fail
 refine hp1.mono ?_;rintro e w2 ⟨rfl,k2⟩
 have k02:=k1.trans k2
 clear hp1 k1 k2
 go_wp2
 exact BR (v:=.float .f64 R) (by simp [results,Tryz.results85,go_sem]) rfl ⟨rfl,k02⟩
def pU (K:Nat) (d:Int) (k:Nat) (z:Int):Int:=if z=9218868437227405312 then 9218868437227405312 else if z = -9218868437227405312 then (if k % 2=1 then -9218868437227405312 else 9218868437227405312) else g53 d 1 (2 ^ (K*(k - 1))) (vZ z ^ k)
def pD (K:Nat) (d:Int) (k:Nat) (z:Int):Int:=if z=9218868437227405312∨z = -9218868437227405312 then 0 else if z=0 then 9218868437227405312 else g53 d (2 ^ (K*(k+1))) ((vZ z).natAbs ^ k) (if z<0∧k % 2=1 then -1 else 1)
def pnZ (K:Nat) (d N:Int) (z:Int):Int:=if N=0 then 4607182418800017408 else if 0<N then pU K d N.natAbs z else pD K d N.natAbs z
theorem iv_pow (n:Bool) (m k:Nat):Iv n m ^ k=if (n && decide (k % 2=1)) then -((Fq.vV Ieee.double m ^ k:Nat):Int) else ((Fq.vV Ieee.double m ^ k:Nat):Int):=by
 have e:∀ (a:Int) (k:Nat),(-a) ^ k=if k % 2=1 then -(a ^ k) else a ^ k:=by
  intro a k
  induction k with
  | zero=>simp
  | succ j ih =>
    rw [Int.pow_succ,Int.pow_succ,ih]
    by_cases c:j % 2=1
    ·rw [if_pos c,if_neg (by omega)];simp [Int.mul_neg,Int.neg_mul]
    ·rw [if_neg c,if_pos (by omega)];simp [Int.mul_neg]
 unfold Iv
 cases n
 ·simp [Int.natCast_pow]
 ·rw [if_pos rfl,e]
  by_cases c:k % 2=1
  ·rw [if_pos c,show (true && decide (k % 2=1))=true from by simp [c],if_pos rfl,Int.natCast_pow]
  ·rw [if_neg c,show (true && decide (k % 2=1))=false from by simp [c],if_neg (by decide),Int.natCast_pow]
theorem upW_g (K:Nat) (hK:K=1074) (d:Int) (s:Bool) (A k:Nat) (hk:0<k) (hA:A≠0) (V:Int) (hV:V=if s then -((A ^ k:Nat):Int) else ((A ^ k:Nat):Int)):upW d s A k=pz (g53 d 1 (2 ^ (K*(k - 1))) V):=by
 have hp:0<A ^ k:=Nat.pow_pos (Nat.pos_of_ne_zero hA)
 unfold upW g53 gpl
 have et:(1074 - 1074*(k:Int)) = -((K*(k - 1):Nat):Int):=by
  obtain ⟨j,rfl⟩:∃ j,k=j+1:=⟨k - 1,by omega⟩
  rw [Nat.add_sub_cancel,hK];omega
 rw [et,rV_neg,mdW_pz]
 generalize A ^ k=P at *
 cases s
 ·have h2:V=(P:Int):=hV
  rw [if_neg (show ¬ V=0 by omega),if_neg (show ¬ V<0 by omega),h2,show ((P:Int)).natAbs=P from by omega];rfl
 ·have h2:V = -(P:Int):=hV
  rw [if_neg (show ¬ V=0 by omega),if_pos (show V<0 by omega),h2,show (-(P:Int)).natAbs=P from by omega];rfl
theorem dnW_g (K:Nat) (hK:K=1074) (d:Int) (s:Bool) (A k:Nat):dnW d s A k=pz (g53 d (2 ^ (K*(k+1))) (A ^ k) (if s then -1 else 1)):=by
 unfold dnW g53 gpl
 have et:(1074+1074*(k:Int))=((K*(k+1):Nat):Int):=by
  rw [Nat.mul_add,hK];omega
 rw [et,rV_pos,mdW_pz]
 cases s
 ·rw [if_neg (by decide),if_neg (by decide),if_neg (by decide)];rfl
 ·rw [if_pos rfl,if_neg (by decide),if_pos (by decide)];rfl
theorem pnZ_bd (K:Nat) (d N z:Int):BdZ (pnZ K d N z):=by
 have g:=g53_le d 1 (2 ^ (K*(N.natAbs - 1))) (vZ z ^ N.natAbs)
 have g2:=g53_le d (2 ^ (K*(N.natAbs+1))) ((vZ z).natAbs ^ N.natAbs) (if z<0∧N.natAbs % 2=1 then -1 else 1)
 unfold pnZ pU pD BdZ
 by_cases c:N=0
 ·rw [if_pos c];omega
 rw [if_neg c]
 by_cases c2:0<N
 ·rw [if_pos c2]
  by_cases a:z=9218868437227405312
  ·rw [if_pos a];omega
  rw [if_neg a]
  by_cases b:z = -9218868437227405312
  ·rw [if_pos b];split <;> omega
  rw [if_neg b];exact g
 ·rw [if_neg c2]
  by_cases a:z=9218868437227405312∨z = -9218868437227405312
  ·rw [if_pos a];omega
  rw [if_neg a]
  by_cases b:z=0
  ·rw [if_pos b];omega
  rw [if_neg b];exact g2
set_option linter.unusedVariables false

theorem powW_ (d:Int) (n:Bool) (m:Nat) (N:Int) (k:Nat) (hmI:m<9218868437227405312) (h1:-1024≤N) (h2:N≤1024) (c0:N≠0) (hk:N=(k:Int)∨N = -(k:Int)) (hd1:-9223372036854775808≤d) (hd2:d<9223372036854775808) (w:World) (hT:Tab w) (hQ:Fq.Tab w):Calls Tryz.prog 85 #[.int .i64 d,.float .f64 (Fq.wD n m),.int .i64 N] w fun e w'=>e=.returned (.float .f64 (if m=0 then (if N<0 then 9218868437227405312 else 0) else if N<0 then dnW d (n && decide (k % 2=1)) (Fq.vV Ieee.double m) k else upW d (n && decide (k % 2=1)) (Fq.vV Ieee.double m) k))∧Kp w w':=by
 have hm:m<9223372036854775808:=by omega
 obtain ⟨Z,hZ⟩:∃ Z,Z=(if m=0 then (if N<0 then 9218868437227405312 else 0) else if N<0 then dnW d (n && decide (k % 2=1)) (Fq.vV Ieee.double m) k else upW d (n && decide (k % 2=1)) (Fq.vV Ieee.double m) k):=⟨_,rfl⟩
 rw [← hZ]
 by_cases n1:N=1
 ·have hk1:k=1:=by omega
  have h:=ppow1_ d n m hmI w
  rw [n1]
  have e:Fq.wD (n && !(m == 0)) m=Z:=by
   rw [hZ]
   by_cases z:m=0
   ·rw [if_pos z,if_neg (by omega),z];simp;rfl
   ·rw [if_neg z,if_neg (by omega),hk1,show (n && decide (1 % 2=1))=n from by simp,up_one d n m hmI z,show (n && !(m == 0))=n from by simp [z]]
  rw [e] at h
  exact h
 ·by_cases n2:N=2
  ·have hk2:k=2:=by omega
   rw [n2]
   refine ppow2_ d n m hmI Z w ?_
   by_cases z:m=0
   ·have e:Z=0:=by rw [hZ,if_pos z,if_neg (by omega)]
    rw [e]
    have hp:=Fq.plain_d (n ^^ n) 0 (by decide) w
    rw [show Fq.wD ((n ^^ n) && !((0:Nat) == 0)) 0=0 from by simp;rfl] at hp
    exact pmulP_ d n n m m hm hm (fun h=>h.2.2.1 z) w w (Fq.wD (n ^^ n) 0) 0 (run_float_arith w .mul 22 .f64 _ _ _ (mul_zero n n m m hmI hmI (Or.inl z))) (Kp.refl _) hp
   ·have e:Z=mulW d (n ^^ n) (Fq.vV Ieee.double m*Fq.vV Ieee.double m):=by
     rw [hZ,if_neg z,if_neg (by omega),hk2,show (n && decide (2 % 2=1))=false from by simp,mul_up d n _ (fun h=>z ((vV_zero m).1 h))]
    rw [e]
    by_cases ct:(2580562586483294208≤m∧m≤6633802251116740608)∧(2580562586483294208≤m∧m≤6633802251116740608)
    ·exact pmulQ_ d n n m m ct.1 ct.2 w
    ·exact pmulE_ d n n m m hmI hmI z z ct w hT hQ hd1 hd2
  ·by_cases n3:N = -1
   ·have hk3:k=1:=by omega
    rw [n3]
    refine ppowM_ d n m hmI Z w ?_
    by_cases z:m=0
    ·have e:Z=Fq.wD false 9218868437227405312:=by rw [hZ,if_pos z,if_pos (by omega)];rfl
     have h:=pdivN_ d false n 4607182418800017408 (by decide) w
     rw [if_neg (by decide)] at h
     rw [e,z]
     exact h
    ·have e:Z=divW d (false ^^ n) (Fq.vV Ieee.double 4607182418800017408) (Fq.vV Ieee.double m):=by
      obtain ⟨K,hK⟩:∃ K:Nat,K=1074:=⟨_,rfl⟩
      rw [hZ,if_neg z,if_pos (by omega),hk3,show (n && decide (1 % 2=1))=n from by simp,div_dn d n _ _ K hK (vV_one K hK) (fun h=>z ((vV_zero m).1 h))]
     rw [e]
     have e2:(#[.int .i64 d,.float .f64 4607182418800017408,.float .f64 (Fq.wD n m)]:Array Value)=#[.int .i64 d,.float .f64 (Fq.wD false 4607182418800017408),.float .f64 (Fq.wD n m)]:=rfl
     rw [e2]
     by_cases ct:(2580562586483294208≤(4607182418800017408:Nat)∧(4607182418800017408:Nat)≤6633802251116740608)∧(2580562586483294208≤m∧m≤6633802251116740608)
     ·exact pdivQ_ d false n 4607182418800017408 m ct.1 ct.2 w
     ·exact pdivE_ d false n 4607182418800017408 m (by decide) hmI (by decide) z ct w hQ hd1 hd2
   ·rw [hZ]
    exact ppowG_ d n m N k hmI (by omega) (by omega) c0 hk n1 n2 n3 w hT hQ hd1 hd2
theorem pz_pw (z:Int):pz z=pw z:=rfl
theorem vZ_iv (z:Int):vZ z=Iv (decide (z<0)) z.natAbs:=rfl
theorem vZ_abs (z:Int):(vZ z).natAbs=Fq.vV Ieee.double z.natAbs:=by
 rw [vZ_iv];unfold Iv
 by_cases c:z<0 <;> simp [c]
theorem powZ_ (K:Nat) (hK:K=1074) (d:Int) (z N:Int) (hz:BdZ z) (h1:-1024≤N) (h2:N≤1024) (hd1:-9223372036854775808≤d) (hd2:d<9223372036854775808) (w:World) (hT:Tab w) (hQ:Fq.Tab w):Calls Tryz.prog 85 #[.int .i64 d,.float .f64 (pw z),.int .i64 N] w fun e w'=>e=.returned (.float .f64 (pw (pnZ K d N z)))∧Kp w w':=by
 unfold pnZ
 by_cases c0:N=0
 ·rw [if_pos c0,c0]
  have h:=ppow0_ d (decide (z<0)) z.natAbs (abs_pw z hz) w
  rw [show pw 4607182418800017408=4607182418800017408 from by decide]
  exact h
 rw [if_neg c0]
 obtain ⟨k,hk⟩:∃ k:Nat,k=N.natAbs:=⟨_,rfl⟩
 rw [← hk]
 have hkN:N=(k:Int)∨N = -(k:Int):=by omega
 by_cases ci:z=9218868437227405312∨z = -9218868437227405312
 ·have h:=ppowI_ d (decide (z<0)) z.natAbs N k (by omega) h1 h2 c0 hkN w
  have e:(if N<0 then 0 else Fq.wD (decide (z<0) && decide (k % 2=1)) 9218868437227405312)=pw (if 0<N then pU K d k z else pD K d k z):=by
   by_cases c:N<0
   ·rw [if_pos c,if_neg (by omega)]
    unfold pD;rw [if_pos ci];decide
   ·rw [if_neg c,if_pos (by omega)]
    unfold pU
    by_cases a:z=9218868437227405312
    ·rw [if_pos a,a,pw_I];rfl
    ·rw [if_neg a,if_pos (by omega),decide_eq_true (show z<0 by omega)]
     by_cases b:k % 2=1
     ·rw [if_pos b,pw_MI,decide_eq_true b];rfl
     ·rw [if_neg b,pw_I,decide_eq_false b];rfl
  rw [e] at h
  exact h
 ·have hmI:z.natAbs<9218868437227405312:=by unfold BdZ at hz;omega
  have h:=powW_ d (decide (z<0)) z.natAbs N k hmI h1 h2 c0 hkN hd1 hd2 w hT hQ
  have e:(if z.natAbs=0 then (if N<0 then 9218868437227405312 else 0) else if N<0 then dnW d (decide (z<0) && decide (k % 2=1)) (Fq.vV Ieee.double z.natAbs) k else upW d (decide (z<0) && decide (k % 2=1)) (Fq.vV Ieee.double z.natAbs) k)=pw (if 0<N then pU K d k z else pD K d k z):=by
   by_cases z0:z=0
   ·rw [if_pos (by omega)]
    by_cases c:N<0
    ·rw [if_pos c,if_neg (by omega)]
     unfold pD;rw [if_neg (by omega),if_pos z0,pw_I]
    ·rw [if_neg c,if_pos (by omega)]
     unfold pU;rw [if_neg (by omega),if_neg (by omega),z0,vZ_0,Int.zero_pow (show k≠0 by omega)]
     unfold g53 gpl;rw [if_pos rfl];decide
   ·rw [if_neg (by omega)]
    by_cases c:N<0
    ·rw [if_pos c,if_neg (by omega),dnW_g K hK]
     unfold pD
     rw [if_neg ci,if_neg z0,vZ_abs,pz_pw]
     by_cases s:z<0∧k % 2=1
     ·rw [if_pos s,show (decide (z<0) && decide (k % 2=1))=true from by simp [s.1,s.2]];rfl
     ·rw [if_neg s,show (decide (z<0) && decide (k % 2=1))=false from by simp;omega];rfl
    ·rw [if_neg c,if_pos (by omega),upW_g K hK d _ _ k (by omega) (fun h=>z0 (by have:=(vV_zero z.natAbs).1 h;omega)) (vZ z ^ k) (by rw [vZ_iv];exact iv_pow _ _ k)]
     unfold pU
     rw [if_neg (by omega),if_neg (by omega),pz_pw]
  rw [e] at h
  exact h
end Go.Proofs.YtcfnialfpblfmaaGreatDoor
