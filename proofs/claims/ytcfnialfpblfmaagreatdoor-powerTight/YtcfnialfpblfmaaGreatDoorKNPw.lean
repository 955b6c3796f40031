import Derived.Test.YtcfnialfpblfmaaGreatDoorKLV
import Derived.Test.YtcfnialfpblfmaaGreatDoorKU2
set_option maxHeartbeats 1000000
set_option maxRecDepth 20000
namespace Go.Proofs.YtcfnialfpblfmaaGreatDoor
open Go.RowKit
theorem npower_ (p:Option Addr) (c m:Nat) (xs:List Int) (w:World) (hx:Arr w p xs) (hn:xs = dig (val xs)) (lx:xs.length≤16384) (hc:xs.length≤c) (ha:2≤val xs) (hm:0 < m) (hm2:m≤1048576) :
    Calls Tryz.prog 181 #[.slice p xs.length c,.int .i64 (m:Int)] w fun e w'=>∃ v,e = .returned (.tuple #[v,.int .i64 (if 16384 < len32 (val xs ^ m) then 2 else 0)])∧Own w' w.heap.size v (if 16384 < len32 (val xs ^ m) then [] else dig (val xs ^ m))∧Kp w w':=by
  have hfr:=fresh_ p c xs w hx (by omega)
  have hle:=lenu_ m (by omega)
  have htop:=top_one m (by omega)
  have hbm:=(blen_spec m (by omega)).2.2
  have hb20:=blen_lt m 21 (by omega)
  obtain ⟨a,hA⟩:∃ a,a = val xs:=⟨_,rfl⟩
  obtain ⟨L,hL⟩:∃ L,L = blen m:=⟨_,rfl⟩
  rw [← hL] at hle htop hbm hb20
  have hla:len32 a≤16384:=by rw [hA];unfold len32;rw [← hn];exact lx
  have hmul:∀ (i j:Nat) (p1 p2:Option Addr) (c1 c2:Nat) (w':World),len32 (a ^ i)≤16384→len32 (a ^ j)≤16384→Arr w' p1 (dig (a ^ i))→Arr w' p2 (dig (a ^ j))→(dig (a ^ i)).length≤c1→(dig (a ^ j)).length≤c2 →
      Calls Tryz.prog 142 #[.slice p1 (dig (a ^ i)).length c1,.slice p2 (dig (a ^ j)).length c2] w' fun e w''=>∃ v,e = .returned (.tuple #[v,.int .i64 (if 16384 < len32 (a ^ (i + j)) then 2 else 0)])∧Own w'' w'.heap.size v (if 16384 < len32 (a ^ (i + j)) then [] else dig (a ^ (i + j)))∧Kp w' w'':=fun i j p1 p2 c1 c2 w' hi hj h1 h2 hc1 hc2=>by
    have e1:(dig (a ^ i)).length = len32 (a ^ i):=rfl
    have e2:(dig (a ^ j)).length = len32 (a ^ j):=rfl
    have:=nmul_ p1 p2 c1 c2 (dig (a ^ i)) (dig (a ^ j)) w' h1 h2 (Wd_dig _) (Wd_dig _) (by omega) (by omega) hc1 hc2
    rw [val_dig,val_dig,mulN_short _ _ hi hj,← Nat.pow_add] at this
    by_cases q:16384 < len32 (a ^ (i + j))
    · rw [if_pos q] at this ⊢;rw [if_pos q];exact this
    · rw [if_neg q] at this ⊢;rw [if_neg q];exact this
  have hxs:xs = dig (a ^ 1):=by rw [Nat.pow_one,hA];exact hn
  rw [hxs] at hfr
  rw [← hA] at ha ⊢
  have HX:Hid (Arr w p (dig (a ^ 1))∧xs.length = (dig (a ^ 1)).length∧(dig (a ^ 1)).length≤c):=⟨by rw [← hxs];exact hx,by rw [← hxs],by rw [← hxs];exact hc⟩
  have HM:Hid (∀ (i j:Nat) (p1 p2:Option Addr) (c1 c2:Nat) (w':World),len32 (a ^ i)≤16384→len32 (a ^ j)≤16384→Arr w' p1 (dig (a ^ i))→Arr w' p2 (dig (a ^ j))→(dig (a ^ i)).length≤c1→(dig (a ^ j)).length≤c2 →
      Calls Tryz.prog 142 #[.slice p1 (dig (a ^ i)).length c1,.slice p2 (dig (a ^ j)).length c2] w' fun e w''=>∃ v,e = .returned (.tuple #[v,.int .i64 (if 16384 < len32 (a ^ (i + j)) then 2 else 0)])∧Own w'' w'.heap.size v (if 16384 < len32 (a ^ (i + j)) then [] else dig (a ^ (i + j)))∧Kp w' w''):=hmul
  obtain ⟨N,hN⟩:∃ N,N = xs.length:=⟨_,rfl⟩
  have hN2:(dig (a ^ 1)).length = N:=by rw [hN,← hxs]
  have hl1:len32 (a ^ 1)≤16384:=by rw [Nat.pow_one];exact hla
  rw [hN2] at hfr
  rw [← hN]
  have HA:Hid (2≤a∧len32 (a ^ 1)≤16384∧(dig (a ^ 1)).length = N∧m / 2 ^ (L - 1) = 1):=⟨ha,hl1,hN2,htop⟩
  have f1:IntKind.u64.wrap (m:Int) = (m:Int):=by rw [IntKind.wrap_u64];omega
  obtain ⟨RE,hRE⟩:∃ RE:Int,RE = if 16384 < len32 (a ^ m) then 2 else 0:=⟨_,rfl⟩
  obtain ⟨RL,hRL⟩:∃ RL:List Int,RL = if 16384 < len32 (a ^ m) then [] else dig (a ^ m):=⟨_,rfl⟩
  rw [← hRE,← hRL]
  have HR:Hid ((16384 < len32 (a ^ m)→RE = 2∧RL = [])∧(¬ 16384 < len32 (a ^ m)→RE = 0∧RL = dig (a ^ m))):=⟨fun h=>by rw [hRE,hRL,if_pos h,if_pos h];exact ⟨rfl,rfl⟩,fun h=>by rw [hRE,hRL,if_neg h,if_neg h];exact ⟨rfl,rfl⟩⟩
  clear hRE hRL
  clear hx hn lx hc hmul hL hN hxs hA hl1 htop hla ha hN2
  go_enter Tryz.func181,Tryz.ntmps181
  go_wp2_with fail
  refine hfr.mono ?_;rintro e w1 ⟨g,rfl,hg,hrow,hk1⟩
  have HO:Hid (Own w1 w.heap.size (.slice (some ⟨g,0,none⟩) N N) (dig (a ^ 1))):=by
    have h1:=Own.of_row (base:=w.heap.size) (k:=N) hrow hg (Nat.le_refl _) HA.out.2.2.1 (by
      have:(dig (a ^ 1)).length = len32 (a ^ 1):=rfl
      have:=HA.out.2.1
      have:=HA.out.2.2.1
      unfold maxLen;omega)
    rw [List.take_of_length_le (by have:=HA.out.2.2.1;omega)] at h1
    exact h1
  clear hfr hrow hg
  go_wp2_with fail
  refine (hle _).mono ?_;rintro e w' ⟨rfl,hw'⟩;obtain rfl:=hw'.symm
  go_wp2
  go_loopw [6,7,8] (fun o e z wr=>∃ (v:Value) (b:Nat) (y:Int),v = o∧z = .int .i64 y∧y = (b:Int) - 1∧b < L∧Kp w wr∧((e = .int .i64 0∧Own wr w.heap.size v (dig (a ^ (m / 2 ^ b)))∧len32 (a ^ (m / 2 ^ b))≤16384)∨(e = .int .i64 2∧Own wr w.heap.size v []∧16384 < len32 (a ^ m)))) (fun _ _ z _=>(intOf z + 1).toNat)
  case atStart=>exact ⟨_,L - 1,_,rfl,rfl,by omega,by omega,hk1,Or.inl ⟨rfl,by rw [HA.out.2.2.2];exact HO.out,by rw [HA.out.2.2.2];exact HA.out.2.1⟩⟩
  case round =>
    clear hk1 HO hle
    obtain ⟨v,b,y,rfl,rfl,hy,hbL,hkp,hst⟩:=hrel
    obtain ⟨ha,hl1,hN2,htop⟩:=HA.out
    rcases hst with ⟨rfl,hown,hlen⟩ | ⟨rfl,hown,hlong⟩
    · rcases b with _ | b
      · have hy1:y = -1:=by omega
        subst hy1
        rw [Nat.pow_zero,Nat.div_one] at hown hlen
        have hno:¬ 16384 < len32 (a ^ m):=by omega
        obtain ⟨hr1,hr2⟩:=HR.out.2 hno
        subst hr1 hr2
        clear HA HX HM hl1 hN2 htop hy hlen hno ha HR
        go_wp2
        exact bodyPost_ret (v:=.tuple #[v,.int .i64 0]) (by simp [results,Tryz.results181,go_sem] <;> simp only [*]) rfl ⟨_,rfl,hown,hkp⟩
      · have hy1:y = (b:Int):=by omega
        subst hy1
        clear hy
        have hst2:=pow_step a m b
        rw [← Nat.pow_add] at hst2
        have hib:m / 2 ^ (b + 1) + m / 2 ^ (b + 1)≤m:=by
          have e:m / 2 ^ (b + 1) * 2≤m / 2 ^ b:=by rw [Nat.pow_succ,← Nat.div_div_eq_div_mul];omega
          have:=Nat.div_le_self m (2 ^ b)
          omega
        have hbm2:=Nat.div_le_self m (2 ^ b)
        obtain ⟨i,hi⟩:∃ i,i = m / 2 ^ (b + 1):=⟨_,rfl⟩
        rw [← hi] at hst2 hown hlen hib
        obtain ⟨p1,c1,rfl,hA1,hc1⟩:=hown.arr
        have h1:=HM.out _ _ p1 p1 c1 c1 wr hlen hlen hA1 hA1 hc1 hc1
        obtain ⟨D,hD⟩:∃ D,D = (dig (a ^ i)).length:=⟨_,rfl⟩
        rw [← hD] at h1 ⊢
        obtain ⟨q,hq⟩:∃ q,q = m / 2 ^ b:=⟨_,rfl⟩
        rw [← hq] at hst2 hbm2
        have fS:(m:Int) / 2 ^ b = (q:Int):=by
          rw [hq];push_cast;rfl
        have fA:=and1_i64 q (by omega)
        obtain ⟨r,hr⟩:∃ r,r = q % 2:=⟨_,rfl⟩
        rw [← hr] at fA hst2
        have hr01:r = 0∨r = 1:=by omega
        have hqi:i + i + r = q:=by
          have e:m / 2 ^ (b + 1) = q / 2:=by rw [Nat.pow_succ,← Nat.div_div_eq_div_mul,hq]
          rw [e] at hi
          omega
        clear hA1 hc1 hown HA hD hi hr
        by_cases q1:16384 < len32 (a ^ (i + i))
        · rw [if_pos q1,if_pos q1] at h1
          have hlong:16384 < len32 (a ^ m):=Nat.lt_of_lt_of_le q1 (pow_mono_len a _ _ ha hib)
          have HLo:Hid (16384 < len32 (a ^ m)):=hlong
          clear HM HX hst2 q1 hl1 hN2 htop hlong hib hbm2 ha hlen hm hqi
          go_wp2_with fail
          refine h1.mono ?_;rintro e w2 ⟨v2,rfl,hO2,hk2⟩
          clear h1
          have hO3:Own w2 w.heap.size v2 []:=hO2.mono hkp.size
          have hk3:=hkp.trans hk2
          have hbL2:b < L:=by omega
          clear hO2 hk2 hkp hq hbL
          rcases hr01 with rfl | rfl
          · go_wp2
            exact ⟨⟨v2,b,_,rfl,by go_num,rfl,hbL2,hk3,Or.inr ⟨rfl,hO3,HLo.out⟩⟩,by simp [intOf]⟩
          · go_wp2
            exact ⟨⟨v2,b,_,rfl,by go_num,rfl,hbL2,hk3,Or.inr ⟨rfl,hO3,HLo.out⟩⟩,by simp [intOf]⟩
        · rw [if_neg q1,if_neg q1] at h1
          have HX2:Hid (∀ p2 c2 w',Kp w w'→Arr w' p2 (dig (a ^ (i + i)))→(dig (a ^ (i + i))).length≤c2→Calls Tryz.prog 142 #[.slice p2 (dig (a ^ (i + i))).length c2,.slice p N c] w' fun e w''=>∃ v,e = .returned (.tuple #[v,.int .i64 (if 16384 < len32 (a ^ (i + i + 1)) then 2 else 0)])∧Own w'' w'.heap.size v (if 16384 < len32 (a ^ (i + i + 1)) then [] else dig (a ^ (i + i + 1)))∧Kp w' w''):=by
            show ∀ p2 c2 w',Kp w w'→Arr w' p2 (dig (a ^ (i + i)))→(dig (a ^ (i + i))).length≤c2→Calls Tryz.prog 142 #[.slice p2 (dig (a ^ (i + i))).length c2,.slice p N c] w' fun e w''=>∃ v,e = .returned (.tuple #[v,.int .i64 (if 16384 < len32 (a ^ (i + i + 1)) then 2 else 0)])∧Own w'' w'.heap.size v (if 16384 < len32 (a ^ (i + i + 1)) then [] else dig (a ^ (i + i + 1)))∧Kp w' w''
            intro p2 c2 w' k h2 hc2
            have:=HM.out (i + i) 1 p2 p c2 c w' (by omega) hl1 h2 (HX.out.1.grown k) hc2 HX.out.2.2
            rw [hN2] at this
            exact this
          have HE:Hid (r = 0→i + i = q):=fun h=>by omega
          have HE1:Hid (r = 1→i + i + 1 = q):=fun h=>by omega
          have HQ:Hid (¬ 16384 < len32 (a ^ (i + i))∧q = m / 2 ^ b∧q≤m∧2≤a):=⟨q1,hq,hbm2,ha⟩
          clear HM HX hst2 q1 hl1 hN2 htop hib hbm2 ha hlen hm hq hqi
          go_wp2_with fail
          refine h1.mono ?_;rintro e w2 ⟨v2,rfl,hO2,hk2⟩
          clear h1
          have hO3:Own w2 w.heap.size v2 (dig (a ^ (i + i))):=hO2.mono hkp.size
          have hk3:=hkp.trans hk2
          have hbL2:b < L:=by omega
          clear hO2 hk2 hkp hbL
          rcases hr01 with rfl | rfl
          · have he:=HE.out rfl
            have hO4:Own w2 w.heap.size v2 (dig (a ^ (m / 2 ^ b))):=by rw [← HQ.out.2.1,← he];exact hO3
            have hl4:len32 (a ^ (m / 2 ^ b))≤16384:=by rw [← HQ.out.2.1,← he];have:=HQ.out.1;omega
            have HH:Hid (Own w2 w.heap.size v2 (dig (a ^ (m / 2 ^ b)))∧len32 (a ^ (m / 2 ^ b))≤16384):=⟨hO4,hl4⟩
            clear HE HE1 HX2 hO3 hO4 hl4 he HQ
            go_wp2
            exact ⟨⟨v2,b,_,rfl,by go_num,rfl,hbL2,hk3,Or.inl ⟨rfl,HH.out.1,HH.out.2⟩⟩,by simp [intOf]⟩
          · have he:=HE1.out rfl
            obtain ⟨p2,c2,rfl,hA2,hc2⟩:=hO3.arr
            have h2:=HX2.out p2 c2 w2 hk3 hA2 hc2
            obtain ⟨D2,hD2⟩:∃ D2,D2 = (dig (a ^ (i + i))).length:=⟨_,rfl⟩
            rw [← hD2] at h2 ⊢
            rw [he] at h2
            clear HE HE1 HX2 hO3 hA2 hc2 hD2 he
            by_cases q2:16384 < len32 (a ^ q)
            · rw [if_pos q2,if_pos q2] at h2
              have HLo:Hid (16384 < len32 (a ^ m)):=Nat.lt_of_lt_of_le q2 (pow_mono_len a _ _ HQ.out.2.2.2 HQ.out.2.2.1)
              clear HQ q2
              go_wp2_with fail
              refine h2.mono ?_;rintro e w3 ⟨v3,rfl,hO5,hk5⟩
              clear h2
              have hO6:Own w3 w.heap.size v3 []:=hO5.mono hk3.size
              have hk6:=hk3.trans hk5
              clear hO5 hk5 hk3
              go_wp2
              exact ⟨⟨v3,b,_,rfl,by go_num,rfl,hbL2,hk6,Or.inr ⟨rfl,hO6,HLo.out⟩⟩,by simp [intOf]⟩
            · rw [if_neg q2,if_neg q2] at h2
              have HLo:Hid (len32 (a ^ q)≤16384):=by show len32 (a ^ q)≤16384;omega
              clear q2
              go_wp2_with fail
              refine h2.mono ?_;rintro e w3 ⟨v3,rfl,hO5,hk5⟩
              clear h2
              have hO6:Own w3 w.heap.size v3 (dig (a ^ (m / 2 ^ b))):=by rw [← HQ.out.2.1];exact hO5.mono hk3.size
              have hl6:len32 (a ^ (m / 2 ^ b))≤16384:=by rw [← HQ.out.2.1];exact HLo.out
              have HH:Hid (Own w3 w.heap.size v3 (dig (a ^ (m / 2 ^ b)))∧len32 (a ^ (m / 2 ^ b))≤16384):=⟨hO6,hl6⟩
              have hk6:=hk3.trans hk5
              clear hO5 hk5 hk3 hO6 hl6 HLo HQ
              go_wp2
              exact ⟨⟨v3,b,_,rfl,by go_num,rfl,hbL2,hk6,Or.inl ⟨rfl,HH.out.1,HH.out.2⟩⟩,by simp [intOf]⟩
    · obtain ⟨hr1,hr2⟩:=HR.out.1 hlong
      subst hr1 hr2
      clear HA HX HM hl1 hN2 htop HR ha hlong
      rcases b with _ | b
      · have hy1:y = -1:=by omega
        subst hy1
        clear hy
        go_wp2
        exact bodyPost_ret (v:=.tuple #[v,.int .i64 2]) (by simp [results,Tryz.results181,go_sem] <;> simp only [*]) rfl ⟨_,rfl,hown,hkp⟩
      · have hy1:y = (b:Int):=by omega
        subst hy1
        clear hy
        go_wp2
        exact bodyPost_ret (v:=.tuple #[v,.int .i64 2]) (by simp [results,Tryz.results181,go_sem] <;> simp only [*]) rfl ⟨_,rfl,hown,hkp⟩
theorem npow_ (p:Option Addr) (c:Nat) (xs:List Int) (w:World) (n:Int) (hx:Arr w p xs) (hwx:Wd xs) (lx:xs.length≤16777216) (hc:xs.length≤c) :
    Calls Tryz.prog 150 #[.slice p xs.length c,.int .i64 n] w fun e w'=>∃ v,e = .returned (.tuple #[v,.int .i64 (powN (val xs) n).2])∧Own w' w.heap.size v (powN (val xs) n).1∧Kp w w':=by
  have h1:=trim_ p c xs w hx (by omega) hc
  have h2:=tooLong_ p (tl xs) c
  have h3:=nsmall_ 1 (by omega) w
  have lS:=tl_le xs
  have h4:=nlen_ p c (nz xs) w (hx.take _) (hwx.take _) (by rw [nz_length];omega) (by rw [nz_length];omega)
  have h5:=fresh_ p c (nz xs) w (hx.take _) (by rw [nz_length];omega)
  have hnn:nz xs = dig (val (nz xs)):=by rw [val_nz];exact nz_dig xs hwx
  have h6:=fun (m:Nat) a b c' d'=>npower_ p c m (nz xs) w (hx.take _) hnn a (by rw [nz_length];omega) b c' d'
  rw [nz_length,val_nz] at h4 h6
  rw [nz_length] at h5
  have e1:=tl_len xs hwx
  have e2:=nz_dig xs hwx
  rw [e2] at h5
  obtain ⟨a,ha⟩:∃ a,a = val xs:=⟨_,rfl⟩
  rw [← ha] at h4 h5 h6 e1
  obtain ⟨N,hN⟩:∃ N,N = xs.length:=⟨_,rfl⟩
  obtain ⟨S,hS⟩:∃ S,S = tl xs:=⟨_,rfl⟩
  rw [← hN,← hS] at h1
  rw [← hS] at h2 h4 h5 h6 e1 lS
  rw [← hN,← ha]
  have lS2:S≤16777216:=by omega
  clear hx hwx lx hc hN hS ha lS hnn e2
  by_cases c0:n < 0
  · have e3:powN a n = ([],1):=by unfold powN;rw [if_pos c0]
    rw [e3]
    clear h2 h3 h4 h5 h6 e1 e3
    go_enter Tryz.func150,Tryz.ntmps150
    go_wp2_with fail
    refine h1.mono ?_;rintro e w' ⟨rfl,hw'⟩;obtain rfl:=hw'.symm
    go_wp2
    exact bodyPost_ret (v:=.tuple #[.slice none 0 0,.int .i64 1]) (by simp [results,Tryz.results150,go_sem] <;> simp only [*]) rfl ⟨_,rfl,Own.nil _ _,Kp.refl _⟩
  obtain ⟨m,rfl⟩:=Int.eq_ofNat_of_zero_le (by omega:0≤n)
  by_cases c1:16384 < S
  · have e3:powN a (m:Int) = ([],2):=by unfold powN;rw [if_neg c0,if_pos (by omega)]
    rw [e3]
    rw [decide_eq_true c1] at h2
    clear h3 h4 h5 h6 e1 e3 c1
    go_enter Tryz.func150,Tryz.ntmps150
    go_wp2_with fail
    refine h1.mono ?_;rintro e w' ⟨rfl,hw'⟩;obtain rfl:=hw'.symm
    go_wp2_with fail
    refine (h2 _).mono ?_;rintro e w' ⟨rfl,hw'⟩;obtain rfl:=hw'.symm
    go_wp2
    exact bodyPost_ret (v:=.tuple #[.slice none 0 0,.int .i64 2]) (by simp [results,Tryz.results150,go_sem] <;> simp only [*]) rfl ⟨_,rfl,Own.nil _ _,Kp.refl _⟩
  rw [decide_eq_false c1] at h2
  have e0:powN a (m:Int) = if 16384 < len32 (a ^ m) then ([],2) else (dig (a ^ m),0):=by unfold powN;rw [if_neg c0,if_neg (by omega),Int.toNat_natCast]
  rw [e0]
  clear e0 c0
  have t0:¬ ((m:Int) < 0):=by omega
  by_cases c2:m = 0
  · subst c2
    have e3:¬ 16384 < len32 (a ^ 0):=by rw [Nat.pow_zero,len32_one];omega
    rw [if_neg e3,Nat.pow_zero]
    clear h4 h5 h6 e1 e3 c1
    go_enter Tryz.func150,Tryz.ntmps150
    go_wp2_with fail
    refine h1.mono ?_;rintro e w' ⟨rfl,hw'⟩;obtain rfl:=hw'.symm
    go_wp2_with fail
    refine (h2 _).mono ?_;rintro e w' ⟨rfl,hw'⟩;obtain rfl:=hw'.symm
    go_wp2_with fail
    refine h3.mono ?_;rintro e w1 ⟨v,rfl,hO,hk⟩
    go_wp2
    exact bodyPost_ret (v:=.tuple #[v,.int .i64 0]) (by simp [results,Tryz.results150,go_sem] <;> simp only [*]) rfl ⟨_,rfl,hO,hk⟩
  have t2:((m:Int) == 0) = false:=by simp;omega
  obtain ⟨L,hL⟩:∃ L,L = blen a:=⟨_,rfl⟩
  rw [← hL] at h4
  have hLb:=blen_len a 16384 (by omega)
  rw [← hL] at hLb
  by_cases c3:L≤1
  · have e3:=pow_small a m (by omega) (by omega)
    have e4:¬ 16384 < len32 a:=by omega
    rw [e3,if_neg e4]
    have t3:(L:Int)≤1:=by omega
    have hO0:∀ g w1,w.heap.size≤g→Rw w1 g S (dig a)→Own w1 w.heap.size (.slice (some ⟨g,0,none⟩) S S) (dig a):=fun g w1 hg hr=>by
      have hd:(dig a).length = S:=by rw [e1];rfl
      have h1:=Own.of_row (base:=w.heap.size) (k:=S) hr hg (Nat.le_refl _) hd (by unfold maxLen;omega)
      rw [List.take_of_length_le (by omega)] at h1
      exact h1
    clear h3 h6 e3 e4 c1 c2 hL e1 hLb
    go_enter Tryz.func150,Tryz.ntmps150
    go_wp2_with fail
    refine h1.mono ?_;rintro e w' ⟨rfl,hw'⟩;obtain rfl:=hw'.symm
    go_wp2_with fail
    refine (h2 _).mono ?_;rintro e w' ⟨rfl,hw'⟩;obtain rfl:=hw'.symm
    go_wp2_with fail
    refine h4.mono ?_;rintro e w' ⟨rfl,hw'⟩;obtain rfl:=hw'.symm
    go_wp2_with fail
    refine h5.mono ?_;rintro e w1 ⟨g,rfl,hg,hrow,hk⟩
    have hO:=hO0 g w1 hg hrow
    clear hO0 hrow hg
    go_wp2
    exact bodyPost_ret (v:=.tuple #[.slice (some ⟨g,0,none⟩) S S,.int .i64 0]) (by simp [results,Tryz.results150,go_sem] <;> simp only [*]) rfl ⟨_,rfl,hO,hk⟩
  have t3:¬ ((L:Int)≤1):=by omega
  obtain ⟨q,hq⟩:∃ q,q = 524287 / (L - 1):=⟨_,rfl⟩
  obtain ⟨K,hK⟩:∃ K,K = L - 1:=⟨_,rfl⟩
  have hqK:(524287:Int).tdiv (K:Int) = (q:Int):=by
    rw [hq,← hK]
    exact tdiv_nat 524287 K
  have f1:(L:Int) - 1 = (K:Int):=by omega
  have f2:¬ ((K:Int) = 0):=by omega
  have f3:((K:Int) == 0) = false:=by simp;omega
  have hK9:(K:Int) < 9223372036854775808:=by omega
  have f4:=w64 (K:Int) (by omega) hK9
  have f5:=wi64 (K:Int) (Int.natCast_nonneg _) hK9
  have hq8:(q:Int) < 9223372036854775808:=by
    have:q≤524287:=by rw [hq];exact Nat.div_le_self _ _
    omega
  have f6:=w64 (q:Int) (Int.natCast_nonneg _) hq8
  have f7:=wi64 (q:Int) (Int.natCast_nonneg _) hq8
  have HF:Hid (wrap64 (q:Int) = (q:Int)∧IntKind.i64.wrap (q:Int) = (q:Int)∧wrap64 (K:Int) = (K:Int)∧IntKind.i64.wrap (K:Int) = (K:Int)):=⟨f6,f7,f4,f5⟩
  clear f4 f5 f6 f7 hq8
  by_cases c4:q < m
  · have c5:16384 < len32 (a ^ m):=pow_long a m 16384 (by omega) (by rw [← hL];exact div_long L m q hq (by omega) c4)
    rw [if_pos c5]
    have t4:(q:Int) < (m:Int):=by omega
    obtain ⟨f6,f7,f4,f5⟩:=HF.out
    clear h3 h5 h6 c1 c2 c3 c4 c5 hL e1 hq hLb lS2 hK hK9 HF
    go_enter Tryz.func150,Tryz.ntmps150
    go_wp2_with fail
    refine h1.mono ?_;rintro e w' ⟨rfl,hw'⟩;obtain rfl:=hw'.symm
    go_wp2_with fail
    refine (h2 _).mono ?_;rintro e w' ⟨rfl,hw'⟩;obtain rfl:=hw'.symm
    go_wp2_with fail
    refine h4.mono ?_;rintro e w' ⟨rfl,hw'⟩;obtain rfl:=hw'.symm
    go_wp2_with fail
    refine h4.mono ?_;rintro e w' ⟨rfl,hw'⟩;obtain rfl:=hw'.symm
    go_wp2
    exact bodyPost_ret (v:=.tuple #[.slice none 0 0,.int .i64 2]) (by simp [results,Tryz.results150,go_sem] <;> simp only [*]) rfl ⟨_,rfl,Own.nil _ _,Kp.refl _⟩
  have t4:¬ ((q:Int) < (m:Int)):=by omega
  have hq9:q≤524287:=by rw [hq];exact Nat.div_le_self _ _
  have h7:=h6 m (by omega) (two_le a (by omega)) (by omega) (by omega)
  obtain ⟨f6,f7,f4,f5⟩:=HF.out
  clear HF
  clear h3 h5 h6 c1 c2 c3 c4 hL e1 hq hLb lS2 hK hK9 hq9
  by_cases c5:16384 < len32 (a ^ m)
  · rw [if_pos c5,if_pos c5] at h7
    rw [if_pos c5]
    clear c5
    go_enter Tryz.func150,Tryz.ntmps150
    go_wp2_with fail
    refine h1.mono ?_;rintro e w' ⟨rfl,hw'⟩;obtain rfl:=hw'.symm
    go_wp2_with fail
    refine (h2 _).mono ?_;rintro e w' ⟨rfl,hw'⟩;obtain rfl:=hw'.symm
    go_wp2_with fail
    refine h4.mono ?_;rintro e w' ⟨rfl,hw'⟩;obtain rfl:=hw'.symm
    go_wp2_with fail
    refine h4.mono ?_;rintro e w' ⟨rfl,hw'⟩;obtain rfl:=hw'.symm
    go_wp2_with fail
    refine h7.mono ?_;rintro e w1 ⟨v,rfl,hO,hk⟩
    go_wp2
    exact bodyPost_ret (v:=.tuple #[v,.int .i64 2]) (by simp [results,Tryz.results150,go_sem] <;> simp only [*]) rfl ⟨_,rfl,hO,hk⟩
  · rw [if_neg c5,if_neg c5] at h7
    rw [if_neg c5]
    clear c5
    go_enter Tryz.func150,Tryz.ntmps150
    go_wp2_with fail
    refine h1.mono ?_;rintro e w' ⟨rfl,hw'⟩;obtain rfl:=hw'.symm
    go_wp2_with fail
    refine (h2 _).mono ?_;rintro e w' ⟨rfl,hw'⟩;obtain rfl:=hw'.symm
    go_wp2_with fail
    refine h4.mono ?_;rintro e w' ⟨rfl,hw'⟩;obtain rfl:=hw'.symm
    go_wp2_with fail
    refine h4.mono ?_;rintro e w' ⟨rfl,hw'⟩;obtain rfl:=hw'.symm
    go_wp2_with fail
    refine h7.mono ?_;rintro e w1 ⟨v,rfl,hO,hk⟩
    go_wp2
    exact bodyPost_ret (v:=.tuple #[v,.int .i64 0]) (by simp [results,Tryz.results150,go_sem] <;> simp only [*]) rfl ⟨_,rfl,hO,hk⟩
end Go.Proofs.YtcfnialfpblfmaaGreatDoor
