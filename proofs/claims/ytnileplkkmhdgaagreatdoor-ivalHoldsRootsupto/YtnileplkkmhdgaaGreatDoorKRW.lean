import Derived.Test.YtnileplkkmhdgaaGreatDoorKBY
set_option maxHeartbeats 1000000
set_option maxRecDepth 20000
namespace Go.Proofs.YtnileplkkmhdgaaGreatDoor
open Go.RowKit
theorem rootOfWord_ (v:Nat) (hv:v < 18446744073709551616) (w:World) :
    Calls Tryz.prog 160 #[.int .u64 (v:Int)] w fun e w'=>∃ r,e = .returned r∧Two w' w.heap.size (dig (rtN v)) (dig (v - rtN v * rtN v)) r∧Kp w w':=by
  have HV:Hid (v < 18446744073709551616):=hv
  clear hv
  go_enter Tryz.func160,Tryz.ntmps160
  go_wp2
  go_loop [4,7] (fun rr ii=>∃ k r:Nat,rr = .int .u64 (r:Int)∧ii = .int .i64 (k:Int)∧k≤32∧RI v r (32 - k)) (fun _ i=>32 - (intOf i).toNat)
  case atStart=>exact ⟨0,0,rfl,rfl,by omega,RI.start v HV.out⟩
  case round =>
    obtain ⟨k,r,rfl,rfl,hk,hI⟩:=hrel
    by_cases ck:k < 32
    · obtain ⟨e,he⟩:∃ e,e = 31 - k:=⟨_,rfl⟩
      rw [show 32 - k = e + 1 from by omega] at hI
      obtain ⟨h1,h2,h3,h4,h5⟩:=hI.tries
      obtain ⟨P,hP⟩:∃ P,P = 2 ^ e:=⟨_,rfl⟩
      obtain ⟨t,ht⟩:∃ t,t = r + 2 ^ e:=⟨_,rfl⟩
      have f1:(31:Int) - (k:Int) = (e:Int):=by omega
      have f1b:IntKind.i64.wrap (31 - (k:Int)) = (e:Int):=by rw [IntKind.wrap_i64];omega
      have hPc:((2:Int) ^ e) = (P:Int):=by rw [hP];norm_cast
      have f2:IntKind.u64.wrap ((2:Int) ^ e) = (P:Int):=by rw [hPc,IntKind.wrap_u64];omega
      have f2b:IntKind.u64.wrap (1 * (2:Int) ^ e) = (P:Int):=by rw [Int.one_mul];exact f2
      have f3:bits BinOp.or IntKind.u64 (r:Int) (P:Int) = (t:Int):=by
        rw [bits_or_u64_nat r P (by omega) (by omega),hP,h1,← ht]
      obtain ⟨S,hS⟩:∃ S,S = t * t:=⟨_,rfl⟩
      have f4:IntKind.u64.wrap ((t:Int) * (t:Int)) = (S:Int):=by
        have e9:(t:Int) * (t:Int) = (S:Int):=by rw [hS];exact (Int.natCast_mul t t).symm
        rw [← ht,← hS] at h3
        rw [e9,IntKind.wrap_u64];omega
      have i1:(k:Int) < 32:=by omega
      by_cases ct:S≤v
      · have hI2:=hI.up (by rw [← ht,← hS];exact ct)
        rw [← ht,show e = 32 - (k + 1) from by omega] at hI2
        have t1:(S:Int)≤(v:Int):=by omega
        have HI:Hid (RI v t (32 - (k + 1))∧k + 1≤32):=⟨hI2,by omega⟩
        clear HV hk hI ck he h1 h2 h3 h4 h5 hP ht hS ct hI2 hPc
        go_wp2
        exact ⟨⟨k + 1,t,rfl,by go_num,HI.out.2,HI.out.1⟩,by simp [intOf];omega⟩
      · have hI2:=hI.stay (by rw [← ht,← hS];exact ct)
        rw [show e = 32 - (k + 1) from by omega] at hI2
        have t1:¬ (S:Int)≤(v:Int):=by omega
        have HI:Hid (RI v r (32 - (k + 1))∧k + 1≤32):=⟨hI2,by omega⟩
        clear HV hk hI ck he h1 h2 h3 h4 h5 hP ht hS ct hI2 hPc
        go_wp2
        exact ⟨⟨k + 1,r,rfl,by go_num,HI.out.2,HI.out.1⟩,by simp [intOf];omega⟩
    · have hk32:k = 32:=by omega
      subst hk32
      obtain ⟨hd1,hd2⟩:=hI.done
      have hr:=hd1.eq
      obtain ⟨S,hS⟩:∃ S,S = r * r:=⟨_,rfl⟩
      obtain ⟨D,hD⟩:∃ D,D = v - r * r:=⟨_,rfl⟩
      have hSv:S≤v:=by rw [hS];exact hd1.1
      have hv:=HV.out
      have f4:IntKind.u64.wrap ((r:Int) * (r:Int)) = (S:Int):=by
        have e9:(r:Int) * (r:Int) = (S:Int):=by rw [hS];exact (Int.natCast_mul r r).symm
        rw [e9,IntKind.wrap_u64];omega
      have f5:IntKind.u64.wrap ((v:Int) - (S:Int)) = (D:Int):=by rw [IntKind.wrap_u64];omega
      have hs1:=nsmall_ r (by omega)
      have hs2:=nsmall_ D (by omega)
      have HR:Hid (r = rtN v∧D = v - rtN v * rtN v):=⟨hr,by rw [← hr];exact hD⟩
      clear HV hk hI ck hd1 hd2 hr hS hD hSv hv
      go_wp2_with fail
      refine (hs1 _).mono ?_
      rintro e w1 ⟨v1,rfl,hO1,hk1⟩
      clear hs1
      go_wp2_with fail
      refine (hs2 _).mono ?_
      rintro e w2 ⟨v2,rfl,hO2,hk2⟩
      obtain ⟨p1,c1,rfl,_⟩:=hO1.len
      obtain ⟨p2,c2,rfl,_⟩:=hO2.len
      have hTwo:Two w2 w.heap.size (dig r) (dig D) (.tuple #[.slice p1 (dig r).length c1,.slice p2 (dig D).length c2]):=by
        refine ⟨p1,c1,p2,c2,rfl,hO1.kp hk2,hO2.mono hk1.size,fun g e e2=>?_⟩
        subst e e2
        have h1:=hO1.above.2
        have h2:=hO2.above.1
        omega
      have HZ:Hid (Two w2 w.heap.size (dig (rtN v)) (dig (v - rtN v * rtN v)) (.tuple #[.slice p1 (dig r).length c1,.slice p2 (dig D).length c2])∧Kp w w2):=⟨by rw [← HR.out.2,← HR.out.1];exact hTwo,hk1.trans hk2⟩
      obtain ⟨K1,hK1⟩:∃ K1,K1 = (dig r).length:=⟨_,rfl⟩
      obtain ⟨K2,hK2⟩:∃ K2,K2 = (dig D).length:=⟨_,rfl⟩
      rw [← hK1,← hK2] at HZ ⊢
      clear hs2 hO1 hO2 hk1 hk2 hTwo hK1 hK2
      go_wp2
      exact bodyPost_ret (v:=.tuple #[.slice p1 K1 c1,.slice p2 K2 c2]) (by simp [results,Tryz.results160,go_sem]) rfl ⟨_,rfl,HZ.out.1,HZ.out.2⟩
theorem root2_ (p:Option Addr) (c:Nat) (xs:List Int) (w:World) (hx:Arr w p xs) (hwx:Wd xs) (l2:xs.length≤2) :
    Calls Tryz.prog 138 #[.slice p xs.length c] w fun e w'=>∃ v,e = .returned v∧Two w' w.heap.size (dig (rtN (val xs))) (dig (val xs - rtN (val xs) * rtN (val xs))) v∧Kp w w':=by
  have hlo:=lowest_ p c xs w hx hwx l2
  have hv:val xs < 18446744073709551616:=by
    have h1:=val_lt xs hwx
    have h2:4294967296 ^ xs.length≤4294967296 ^ 2:=Nat.pow_le_pow_right (by omega) l2
    have h3:(4294967296:Nat) ^ 2 = 18446744073709551616:=by decide
    omega
  have hrw:=rootOfWord_ (val xs) hv w
  obtain ⟨N,hN⟩:∃ N,N = xs.length:=⟨_,rfl⟩
  obtain ⟨V,hV⟩:∃ V,V = val xs:=⟨_,rfl⟩
  rw [← hN,← hV] at hlo
  rw [← hV] at hrw
  rw [← hN,← hV]
  have t1:(N:Int)≤2:=by omega
  clear hx hwx l2 hv hN hV
  go_enter Tryz.func138,Tryz.ntmps138
  go_wp2_with fail
  refine hlo.mono ?_;rintro e w' ⟨rfl,hw'⟩;obtain rfl:=hw'.symm;clear hlo
  go_wp2_with fail
  refine hrw.mono ?_
  rintro e w2 ⟨v,rfl,⟨p1,c1,p2,c2,rfl,o1,o2,hne⟩,hk2⟩
  obtain ⟨L1,hL1⟩:∃ L1,L1 = (dig (rtN V)).length:=⟨_,rfl⟩
  obtain ⟨L2,hL2⟩:∃ L2,L2 = (dig (V - rtN V * rtN V)).length:=⟨_,rfl⟩
  have HZ:Hid (Two w2 w.heap.size (dig (rtN V)) (dig (V - rtN V * rtN V)) (.tuple #[.slice p1 L1 c1,.slice p2 L2 c2])∧Kp w w2):=⟨⟨p1,c1,p2,c2,by rw [hL1,hL2],o1,o2,hne⟩,hk2⟩
  rw [← hL1,← hL2]
  clear hrw o1 o2 hne hk2 hL1 hL2 t1
  go_wp2
  exact bodyPost_ret (v:=.tuple #[.slice p1 L1 c1,.slice p2 L2 c2]) (by simp [results,Tryz.results138,go_sem]) rfl ⟨_,rfl,HZ.out.1,HZ.out.2⟩
theorem nroot_of (p:Option Addr) (c:Nat) (xs:List Int) (w:World) (hx:Arr w p xs) (hwx:Wd xs) (lx:xs.length≤1048576) (hc:xs.length≤c)
    (hroot:¬ 16384 < tl xs→Calls Tryz.prog 138 #[.slice p (tl xs) c] w fun e w'=>∃ v,e = .returned v∧Two w' w.heap.size (dig (rtN (val xs))) (dig (val xs - rtN (val xs) * rtN (val xs))) v∧Kp w w') :
    Calls Tryz.prog 107 #[.slice p xs.length c] w fun e w'=>∃ v,e = .returned (.tuple #[v,.bool (rootN (val xs)).2.1,.int .i64 (rootN (val xs)).2.2])∧Own w' w.heap.size v (rootN (val xs)).1∧Kp w w':=by
  have h1:=trim_ p c xs w hx (by omega) hc
  have l1:=tooLong_ p (tl xs) c w
  have hlx:tl xs = len32 (val xs):=tl_len xs hwx
  obtain ⟨N,hN⟩:∃ N,N = xs.length:=⟨_,rfl⟩
  obtain ⟨S,hS⟩:∃ S,S = tl xs:=⟨_,rfl⟩
  obtain ⟨V,hV⟩:∃ V,V = val xs:=⟨_,rfl⟩
  rw [← hN,← hS] at h1
  rw [← hS] at l1 hlx hroot
  rw [← hV] at hlx hroot
  rw [← hN,← hV]
  clear hx hwx lx hc hN hS hV
  unfold rootN
  by_cases cl:16384 < len32 V
  · rw [← hlx] at cl ⊢
    simp only [if_pos cl]
    rw [decide_eq_true cl] at l1
    clear hroot hlx cl
    go_enter Tryz.func107,Tryz.ntmps107
    go_wp2_with fail
    refine h1.mono ?_;rintro e w' ⟨rfl,hw'⟩;obtain rfl:=hw'.symm;clear h1
    go_wp2_with fail
    refine l1.mono ?_;rintro e w' ⟨rfl,hw'⟩;obtain rfl:=hw'.symm;clear l1
    go_wp2
    exact bodyPost_ret (v:=.tuple #[.slice none 0 0,.bool false,.int .i64 2]) (by simp [results,Tryz.results107,go_sem]) rfl ⟨_,rfl,Own.nil _ _,Kp.refl _⟩
  · rw [← hlx] at cl ⊢
    simp only [if_neg cl]
    have hr:=hroot cl
    rw [decide_eq_false cl] at l1
    obtain ⟨D,hD⟩:∃ D,D = V - rtN V * rtN V:=⟨_,rfl⟩
    obtain ⟨R,hR⟩:∃ R,R = rtN V:=⟨_,rfl⟩
    have hle:=(rtN_is V).1
    rw [← hD,← hR] at hr
    rw [← hR] at hle hD ⊢
    have hb:decide (V = R * R) = decide (D = 0):=by
      by_cases e:D = 0
      · rw [decide_eq_true e,decide_eq_true (by omega)]
      · rw [decide_eq_false e,decide_eq_false (by omega)]
    rw [hb]
    clear hroot hlx cl hD hR hle hb
    go_enter Tryz.func107,Tryz.ntmps107
    go_wp2_with fail
    refine h1.mono ?_;rintro e w' ⟨rfl,hw'⟩;obtain rfl:=hw'.symm;clear h1
    go_wp2_with fail
    refine l1.mono ?_;rintro e w' ⟨rfl,hw'⟩;obtain rfl:=hw'.symm;clear l1
    go_wp2_with fail
    refine hr.mono ?_
    rintro e w2 ⟨v,rfl,⟨p1,c1,p2,c2,rfl,o1,o2,hne⟩,hk2⟩
    obtain ⟨L1,hL1⟩:∃ L1,L1 = (dig R).length:=⟨_,rfl⟩
    obtain ⟨L2,hL2⟩:∃ L2,L2 = (dig D).length:=⟨_,rfl⟩
    have h0:=dig_len_zero D
    rw [← hL2] at h0
    obtain ⟨bb,hbb⟩:∃ bb,bb = decide (D = 0):=⟨_,rfl⟩
    have tb:decide ((L2:Int) = 0) = bb:=by
      rw [hbb]
      by_cases e:D = 0
      · rw [decide_eq_true e,decide_eq_true (by have:=h0.2 e;omega)]
      · rw [decide_eq_false e,decide_eq_false (by have:=mt h0.1 e;omega)]
    have tb2:((L2:Int) == 0) = bb:=tb
    have HZ:Hid (Own w2 w.heap.size (.slice p1 L1 c1) (dig R)∧Kp w w2∧bb = decide (D = 0)):=⟨by rw [hL1];exact o1,hk2,hbb⟩
    rw [← hL1,← hL2]
    clear hr o1 o2 hne hk2 hL1 hL2 h0 hbb tb
    go_wp2
    exact bodyPost_ret (v:=.tuple #[.slice p1 L1 c1,.bool bb,.int .i64 0]) (by simp [results,Tryz.results107,go_sem]) rfl ⟨_,by rw [HZ.out.2.2],HZ.out.1,HZ.out.2.1⟩
theorem div32_ (hi lo b:Nat) (h0:0 < b) (h1:hi < b) (h2:b < 4294967296) (h3:lo < 4294967296) (w:World):Calls Tryz.prog 171 #[.int .u32 (hi:Int),.int .u32 (lo:Int),.int .u32 (b:Int)] w fun e w'=>e = .returned (.tuple #[.int .u32 (((hi * 4294967296 + lo) / b:Nat):Int),.int .u32 (((hi * 4294967296 + lo) % b:Nat):Int)])∧w' = w.drew:=by
  obtain ⟨d1,d2,d3⟩:=div_word hi lo b h0 h1
  obtain ⟨hd,hhd⟩:∃ hd,hd = hi * 4294967296 + lo:=⟨_,rfl⟩
  rw [← hhd] at d2 d3 ⊢
  obtain ⟨q0,hq0⟩:∃ q0,q0 = hd / b:=⟨_,rfl⟩
  obtain ⟨r0,hr0⟩:∃ r0,r0 = hd % b:=⟨_,rfl⟩
  have fq:(hd:Int) / (b:Int) = (q0:Int):=by rw [hq0];exact (Int.natCast_ediv hd b).symm
  have fr:(hd:Int) % (b:Int) = (r0:Int):=by rw [hr0];exact (Int.natCast_emod hd b).symm
  have fq2:Int.tdiv (hd:Int) (b:Int) = (q0:Int):=by rw [hq0];rfl
  have fr2:Int.tmod (hd:Int) (b:Int) = (r0:Int):=by rw [hr0];rfl
  rw [← hr0] at d2
  rw [← hq0] at d3
  rw [← hq0,← hr0]
  have hq32:=d3 h3
  have fq3:IntKind.u64.wrap (q0:Int) = (q0:Int):=by rw [IntKind.wrap_u64];omega
  have fr3:IntKind.u64.wrap (r0:Int) = (r0:Int):=by rw [IntKind.wrap_u64];omega
  have fq4:IntKind.u32.wrap (q0:Int) = (q0:Int):=by rw [IntKind.wrap_u32];omega
  have fr4:IntKind.u32.wrap (r0:Int) = (r0:Int):=by rw [IntKind.wrap_u32];omega
  obtain ⟨S,hS⟩:∃ S,S = hi * 4294967296:=⟨_,rfl⟩
  have f1:IntKind.u64.wrap (hi:Int) = (hi:Int):=by rw [IntKind.wrap_u64];omega
  have f2:IntKind.u64.wrap (lo:Int) = (lo:Int):=by rw [IntKind.wrap_u64];omega
  have f2b:IntKind.u64.wrap (b:Int) = (b:Int):=by rw [IntKind.wrap_u64];omega
  have f3:IntKind.u64.wrap ((hi:Int) * 4294967296) = (S:Int):=by rw [IntKind.wrap_u64];omega
  have f4:bits BinOp.or IntKind.u64 (S:Int) (lo:Int) = (hd:Int):=by
    rw [hS,bits_or_u64_nat (hi * 4294967296) lo (by omega) (by omega)]
    have e2:hi * 4294967296 ||| lo = hd:=by
      rw [Nat.or_comm,hhd]
      have:=or_low lo hi 32 (by omega)
      rw [show (2:Nat) ^ 32 = 4294967296 from rfl] at this
      omega
    rw [e2]
  have t0:¬ b = 0:=by omega
  have t1:¬ ((b:Int)≤(hi:Int)):=by omega
  clear d1 d2 d3 hhd hq0 hr0 hq32 hS h0 h1 h2 h3
  go_enter Tryz.func171,Tryz.ntmps171
  go_wp2
  go_region
  clear fq fr fq2 fr2 fq3 fr3 fq4 fr4 f1 f2 f2b f3 f4 t0 t1
  go_wp2
  exact bodyPost_ret (v:=.tuple #[.int .u32 (q0:Int),.int .u32 (r0:Int)]) (by simp [results,Tryz.results171,go_sem]) rfl ⟨rfl,rfl⟩
theorem byWord_ (p:Option Addr) (c b:Nat) (xs:List Int) (w:World) (hx:Arr w p xs) (hwx:Wd xs) (lx:xs.length≤1048576) (hb0:0 < b) (hb1:b < 4294967296) :
    Calls Tryz.prog 168 #[.slice p xs.length c,.int .u32 (b:Int)] w fun e w'=>∃ v,e = .returned v∧Two w' w.heap.size (dig (val xs / b)) (dig (val xs % b)) v∧Kp w w':=by
  obtain ⟨N,hN⟩:∃ N,N = xs.length:=⟨_,rfl⟩
  rw [← hN]
  have lN:N≤1048576:=by omega
  have hmk:=mk32 N (by omega)
  obtain ⟨gq,hgq⟩:∃ gq,gq = w.heap.size:=⟨_,rfl⟩
  have hrq:Rw (w.alloc (.cells (madeCells #[.int .u32 0] N) 72)) w.heap.size N (List.replicate N 0):=World.rowIs.congr (World.rowIs_made w (.int .u32 0) N 72) (fun j _=>by rw [rep0_getD])
  rw [← hgq] at hrq
  have HS:Hid (Rw (w.alloc (.cells (madeCells #[.int .u32 0] N) 72)) gq N (List.replicate N 0)∧Kp w (w.alloc (.cells (madeCells #[.int .u32 0] N) 72))∧w.heap.size≤gq):=⟨hrq,(Kp.refl w).alloc _,by omega⟩
  have HX:Hid (Arr w p xs∧Wd xs∧N = xs.length∧0 < b∧b < 4294967296):=⟨hx,hwx,hN,hb0,hb1⟩
  clear hx hwx lx hb0 hb1 hN hrq
  go_enter Tryz.func168,Tryz.ntmps168
  go_wp2
  rw [← hgq]
  clear hgq
  go_loopw [6,14] (fun rr ii wr=>∃ (k rest:Nat) (qs:List Int),rr = .int .u32 (rest:Int)∧ii = .int .i64 k∧k≤N∧rest < b∧Rw wr gq N qs∧qs.length = N∧Wd qs∧(∀ j,j < N - k→qs.getD j 0 = 0)∧val qs * b + rest * 4294967296 ^ (N - k) + val (xs.take (N - k)) = val xs∧Kp w wr) (fun _ i _=>N - (intOf i).toNat)
  case atStart =>
    obtain ⟨hrq,hk,hg⟩:=HS.out
    obtain ⟨hx,hwx,hN,hb0,hb1⟩:=HX.out
    refine ⟨0,0,List.replicate N 0,rfl,rfl,Nat.zero_le _,hb0,hrq,by simp,fun j=>by rw [rep0_getD];omega,fun j _=>rep0_getD N j, ?_,hk⟩
    rw [val_zeros _ (fun j=>rep0_getD N j),Nat.zero_mul,Nat.zero_mul,Nat.zero_add,Nat.sub_zero,List.take_of_length_le (by omega)]
  case round =>
    obtain ⟨k,rest,qs,rfl,rfl,hk,hrb,hrq,hql,hwq,hq0,hval,hkp⟩:=hrel
    obtain ⟨_,_,hgw⟩:=HS.out
    obtain ⟨hx,hwx,hN,hb0,hb1⟩:=HX.out
    by_cases ck:k < N
    · obtain ⟨r,hr⟩:∃ r,r = N - 1 - k:=⟨_,rfl⟩
      have hr1:N - k = r + 1:=by omega
      rw [hr1] at hval
      obtain ⟨b',off',rfl,hc'⟩:=hx.at (k:=r) (by omega)
      have e1:=kkeep hkp (hc' r (by omega))
      have hbg:b'≠gq:=by have:=cell_lt (hc' r (by omega));omega
      have wx:=hwx r
      obtain ⟨x,hx9⟩:∃ x:Nat,(x:Int) = xs.getD r 0:=⟨_,Int.toNat_of_nonneg wx.1⟩
      rw [← hx9] at e1
      obtain ⟨d1,d2,d3⟩:=div_word rest x b hb0 hrb
      have hdv:=div32_ rest x b hb0 hrb hb1 (by omega)
      obtain ⟨D,hD⟩:∃ D,D = (rest * 4294967296 + x) / b:=⟨_,rfl⟩
      obtain ⟨R,hR⟩:∃ R,R = (rest * 4294967296 + x) % b:=⟨_,rfl⟩
      rw [← hD,← hR] at hdv d1
      rw [← hR] at d2
      rw [← hD] at d3
      have hD32:=d3 (by omega)
      have hst:=bw_step qs xs b r D rest R x _ (by omega) (hq0 r (by omega)) (by rw [← hx9];rfl) d1 hval
      have hrN:r < N:=by omega
      have e3:=World.rowIs.cell hrq (i:=r) hrN
      have e4:=World.rowIs.frozen hrq r
      have hRq:Rw (wr.drew.setCell ⟨gq,r,none⟩ (.int .u32 (D:Int))) gq N (qs.set r (D:Int)):=by
        have h:Rw wr.drew gq N qs:=hrq
        exact h.set r (D:Int) (by omega)
      have hKp:Kp w (wr.drew.setCell ⟨gq,r,none⟩ (.int .u32 (D:Int))):=(hkp.drew).setCell hgw _
      have hw2:Wd (qs.set r (D:Int)):=hwq.set r D (by omega)
      have hl2:(qs.set r (D:Int)).length = N:=by rw [List.length_set];exact hql
      have hr2:N - (k + 1) = r:=by omega
      have hz2:∀ j,j < N - (k + 1)→(qs.set r (D:Int)).getD j 0 = 0:=fun j hj=>by
        have e2:(qs.set r (D:Int)).getD j 0 = qs.getD j 0:=by simp [List.getD,show ¬ r = j from by omega]
        rw [e2,hq0 j (by omega)]
      have HF:Hid (R < b∧Rw (wr.drew.setCell ⟨gq,r,none⟩ (.int .u32 (D:Int))) gq N (qs.set r (D:Int))∧(qs.set r (D:Int)).length = N∧Wd (qs.set r (D:Int))∧(∀ j,j < N - (k + 1)→(qs.set r (D:Int)).getD j 0 = 0)∧val (qs.set r (D:Int)) * b + R * 4294967296 ^ (N - (k + 1)) + val (xs.take (N - (k + 1))) = val xs∧Kp w (wr.drew.setCell ⟨gq,r,none⟩ (.int .u32 (D:Int)))):=⟨d2,hRq,hl2,hw2,hz2,by rw [hr2];exact hst,hKp⟩
      have fr:IntKind.i64.wrap ((N:Int) - 1 - (k:Int)) = (r:Int):=by rw [IntKind.wrap_i64];omega
      have fr1:(N:Int) - 1 - (k:Int) = (r:Int):=by omega
      have i0:(k:Int) < (N:Int):=by omega
      have i1:(r:Int) < (N:Int):=by omega
      have hkN:k + 1≤N:=by omega
      clear HX HS hx hwx hN hb0 hb1 hk hrb hrq hql hwq hq0 hval hkp hgw hr hr1 hc' wx hx9 d1 d2 d3 hD hR hD32 hst hRq hKp hw2 hl2 hr2 hz2 hmk
      go_wp2_with (first | (go_at_call 171;refine (hdv _).mono ?_;rintro e w' ⟨rfl,hw'⟩;obtain rfl:=hw'.symm))
      obtain ⟨a1,a2,a3,a4,a5,a6,a7⟩:=HF.out
      exact ⟨⟨k + 1,R,qs.set r (D:Int),rfl,by go_num,hkN,a1,a2,a3,a4,a5,a6,a7⟩,by simp [intOf];omega⟩
    · have hkN:k = N:=by omega
      subst hkN
      rw [Nat.sub_self,Nat.pow_zero,Nat.mul_one,List.take_zero,show val ([]:List Int) = 0 from rfl,Nat.add_zero] at hval
      obtain ⟨he1,he2⟩:=bw_end _ _ _ _ hval hrb
      have htr:=trim_ (some ⟨gq,0,none⟩) k qs wr (hrq.all hql) (by omega) (by omega)
      have hsm:=nsmall_ rest (by omega)
      rw [hql] at htr
      have hOq:∀ w',Kp wr w'→Own w' w.heap.size (.slice (some ⟨gq,0,none⟩) (tl qs) k) (dig (val xs / b)):=fun w' h=>by
        have h1:=Own.of_row (base:=w.heap.size) (k:=tl qs) (hrq.grown h) hgw (by have:=tl_le qs;omega) hql (by unfold maxLen;omega)
        have h2:qs.take (tl qs) = dig (val xs / b):=by rw [← he1,← nz_dig qs hwq];rfl
        rw [h2] at h1
        exact h1
      have htl:tl qs = (dig (val xs / b)).length:=by rw [← he1,tl_len qs hwq];rfl
      have hgql:gq < wr.heap.size:=World.rowIs.lt hrq
      obtain ⟨T,hT⟩:∃ T,T = tl qs:=⟨_,rfl⟩
      rw [← hT] at htr hOq htl
      have i2:¬ ((k:Int) < (k:Int)):=by omega
      have f1:IntKind.u64.wrap (rest:Int) = (rest:Int):=by rw [IntKind.wrap_u64];omega
      have HF:Hid ((∀ w',Kp wr w'→Own w' w.heap.size (.slice (some ⟨gq,0,none⟩) T k) (dig (val xs / b)))∧T = (dig (val xs / b)).length∧gq < wr.heap.size∧Kp w wr∧rest = val xs % b):=⟨hOq,htl,hgql,hkp,he2⟩
      clear HX HS hx hwx hN hb0 hb1 hk hrb hrq hql hwq hq0 hval hkp hgw ck he1 he2 hOq htl hgql hT hmk
      go_wp2_with (first | (go_at_call 120;refine htr.mono ?_;rintro e w' ⟨rfl,hw'⟩;obtain rfl:=hw'.symm))
      refine (hsm _).mono ?_
      rintro e w' ⟨vr,rfl,hOr,hkr⟩
      obtain ⟨hOq,htl,hgql,hkp,he2⟩:=HF.out
      rw [he2] at hOr
      have hKf:Kp w w':=hkp.trans hkr
      have hTwo:Two w' w.heap.size (dig (val xs / b)) (dig (val xs % b)) (.tuple #[.slice (some ⟨gq,0,none⟩) T k,vr]):=by
        obtain ⟨pr,cr,rfl,hor⟩:=hOr.len
        refine ⟨some ⟨gq,0,none⟩,k,pr,cr,by rw [htl],by rw [← htl];exact hOq w' hkr,hOr.mono hkp.size,fun g e e2=>?_⟩
        cases e
        rw [e2] at hOr
        have h1:=hOr.above.1
        omega
      have HZ:Hid (Two w' w.heap.size (dig (val xs / b)) (dig (val xs % b)) (.tuple #[.slice (some ⟨gq,0,none⟩) T k,vr])∧Kp w w'):=⟨hTwo,hKf⟩
      clear HF hOq htl hgql hkp hKf hTwo hOr hkr htr hsm f1 he2
      go_wp2
      exact bodyPost_ret (v:=.tuple #[.slice (some ⟨gq,0,none⟩) T k,vr]) (by simp [results,Tryz.results168,go_sem]) rfl ⟨_,rfl,HZ.out.1,HZ.out.2⟩
theorem isnan_i (x:Int) (w:World):Calls Tryz.prog 153 #[.int .i64 x] w fun e w'=>e = .returned (.bool false)∧w' = w:=by
  go_enter Tryz.func153,Tryz.ntmps153
  go_wp2
  exact bodyPost_ret (v:=.bool false) (by simp [results,Tryz.results153,go_sem] <;> simp only [*]) rfl ⟨rfl,rfl⟩
theorem compare_i (x y:Int) (w:World):Calls Tryz.prog 126 #[.int .i64 x,.int .i64 y] w fun e w'=>e = .returned (.int .i64 (cmpz x y))∧w' = w:=by
  rcases (by omega:x < y∨y < x∨x = y) with c | c | c
  · have ec:cmpz x y = -1:=by unfold cmpz;simp [c]
    rw [ec];clear ec
    go_enter Tryz.func126,Tryz.ntmps126
    go_wp2_with (first | (go_at_call 153;refine (isnan_i _ _).mono ?_;rintro e w' ⟨rfl,rfl⟩))
    exact bodyPost_ret (v:=.int .i64 (-1)) (by simp [results,Tryz.results126,go_sem] <;> simp only [*]) rfl ⟨rfl,rfl⟩
  · have d:¬ (x < y):=by omega
    have ec:cmpz x y = 1:=by unfold cmpz;simp [c,d]
    rw [ec];clear ec
    go_enter Tryz.func126,Tryz.ntmps126
    go_wp2_with (first | (go_at_call 153;refine (isnan_i _ _).mono ?_;rintro e w' ⟨rfl,rfl⟩))
    exact bodyPost_ret (v:=.int .i64 1) (by simp [results,Tryz.results126,go_sem] <;> simp only [*]) rfl ⟨rfl,rfl⟩
  · subst c
    have d:¬ (x < x):=by omega
    have ec:cmpz x x = 0:=by unfold cmpz;simp
    rw [ec];clear ec
    go_enter Tryz.func126,Tryz.ntmps126
    go_wp2_with (first | (go_at_call 153;refine (isnan_i _ _).mono ?_;rintro e w' ⟨rfl,rfl⟩))
    exact bodyPost_ret (v:=.int .i64 0) (by simp [results,Tryz.results126,go_sem] <;> simp only [*]) rfl ⟨rfl,rfl⟩
theorem isnan_u (x:Int) (w:World):Calls Tryz.prog 154 #[.int .u32 x] w fun e w'=>e = .returned (.bool false)∧w' = w:=by
  go_enter Tryz.func154,Tryz.ntmps154
  go_wp2
  exact bodyPost_ret (v:=.bool false) (by simp [results,Tryz.results154,go_sem] <;> simp only [*]) rfl ⟨rfl,rfl⟩
theorem compare_u (x y:Int) (w:World):Calls Tryz.prog 127 #[.int .u32 x,.int .u32 y] w fun e w'=>e = .returned (.int .i64 (cmpz x y))∧w' = w:=by
  rcases (by omega:x < y∨y < x∨x = y) with c | c | c
  · have ec:cmpz x y = -1:=by unfold cmpz;simp [c]
    rw [ec];clear ec
    go_enter Tryz.func127,Tryz.ntmps127
    go_wp2_with (first | (go_at_call 154;refine (isnan_u _ _).mono ?_;rintro e w' ⟨rfl,rfl⟩))
    exact bodyPost_ret (v:=.int .i64 (-1)) (by simp [results,Tryz.results127,go_sem] <;> simp only [*]) rfl ⟨rfl,rfl⟩
  · have d:¬ (x < y):=by omega
    have ec:cmpz x y = 1:=by unfold cmpz;simp [c,d]
    rw [ec];clear ec
    go_enter Tryz.func127,Tryz.ntmps127
    go_wp2_with (first | (go_at_call 154;refine (isnan_u _ _).mono ?_;rintro e w' ⟨rfl,rfl⟩))
    exact bodyPost_ret (v:=.int .i64 1) (by simp [results,Tryz.results127,go_sem] <;> simp only [*]) rfl ⟨rfl,rfl⟩
  · subst c
    have d:¬ (x < x):=by omega
    have ec:cmpz x x = 0:=by unfold cmpz;simp
    rw [ec];clear ec
    go_enter Tryz.func127,Tryz.ntmps127
    go_wp2_with (first | (go_at_call 154;refine (isnan_u _ _).mono ?_;rintro e w' ⟨rfl,rfl⟩))
    exact bodyPost_ret (v:=.int .i64 0) (by simp [results,Tryz.results127,go_sem] <;> simp only [*]) rfl ⟨rfl,rfl⟩
theorem ncmp_ (p q:Option Addr) (c d:Nat) (xs ys:List Int) (w:World) (hx:Arr w p xs) (hy:Arr w q ys) (hwx:Wd xs) (hwy:Wd ys) (lx:xs.length≤1099511627776) (ly:ys.length≤1099511627776) (hc:xs.length≤c) (hd:ys.length≤d) :
    Calls Tryz.prog 96 #[.slice p xs.length c,.slice q ys.length d] w fun e w'=>e = .returned (.int .i64 (cmpN (val xs) (val ys)))∧Kp w w':=by
  have h1:=trim_ p c xs w hx lx hc
  have h2:=trim_ q d ys w hy ly hd
  have lS:=tl_le xs
  have lT:=tl_le ys
  have hg:Kp w w:=Kp.refl w
  have dne:tl xs≠tl ys→cmpz (tl xs:Int) (tl ys:Int) = cmpN (val xs) (val ys):=fun h=>by
    rcases (by omega:tl xs < tl ys∨tl ys < tl xs) with e | e
    · rw [cmpN_lt (tl_lt_val xs ys hwx hwy e)];unfold cmpz;rw [if_pos (by omega)]
    · rw [cmpN_gt (tl_lt_val ys xs hwy hwx e)];unfold cmpz;rw [if_neg (by omega),if_pos (by omega)]
  have deq:tl xs = tl ys→(∀ j,j < tl xs→xs.getD j 0 = ys.getD j 0)→cmpN (val xs) (val ys) = 0:=fun e h=>by
    apply cmpN_eq
    rw [← val_tl xs,← val_tl ys,← e]
    exact cmp_all xs ys _ h
  have tne:∀ k,tl xs = tl ys→k < tl xs→xs.getD k 0≠ys.getD k 0→(∀ j,k < j→j < tl xs→xs.getD j 0 = ys.getD j 0)→cmpz (xs.getD k 0) (ys.getD k 0) = cmpN (val xs) (val ys):=fun k e h1 h2 h3=>by
    rcases (by omega:xs.getD k 0 < ys.getD k 0∨ys.getD k 0 < xs.getD k 0) with f | f
    · rw [cmpN_lt (by rw [← val_tl xs,← val_tl ys,← e];exact cmp_top xs ys hwx k (hwx k).1 f _ h1 h3)];unfold cmpz;rw [if_pos f]
    · rw [cmpN_gt (by rw [← val_tl xs,← val_tl ys,← e];exact cmp_top ys xs hwy k (hwy k).1 f _ h1 (fun j a b=>(h3 j a b).symm))];unfold cmpz;rw [if_neg (by omega),if_pos f]
  obtain ⟨R,hR⟩:∃ R,R = cmpN (val xs) (val ys):=⟨_,rfl⟩
  obtain ⟨N,hN⟩:∃ N,N = xs.length:=⟨_,rfl⟩
  obtain ⟨M,hM⟩:∃ M,M = ys.length:=⟨_,rfl⟩
  obtain ⟨S,hS⟩:∃ S,S = tl xs:=⟨_,rfl⟩
  obtain ⟨T,hT⟩:∃ T,T = tl ys:=⟨_,rfl⟩
  rw [← hS,← hN] at h1 lS
  rw [← hT,← hM] at h2 lT
  rw [← hS,← hT,← hR] at dne deq tne
  rw [← hN,← hM,← hR]
  have HX:Hid (Arr w p xs):=hx
  have HY:Hid (Arr w q ys):=hy
  have HN:Hid (N = xs.length∧M = ys.length):=⟨hN,hM⟩
  have lS2:S≤1099511627776:=by omega
  clear hx hy hwx hwy lx ly hN hM hS hT hR hc hd
  by_cases cST:S = T
  · subst cST
    have t1:((S:Int) != (S:Int)) = false:=by simp
    have HD:Hid ((∀ j,j < S→xs.getD j 0 = ys.getD j 0)→R = 0):=deq rfl
    have HL:Hid (∀ k,k < S→xs.getD k 0≠ys.getD k 0→(∀ j,k < j→j < S→xs.getD j 0 = ys.getD j 0)→cmpz (xs.getD k 0) (ys.getD k 0) = R):=fun k=>tne k rfl
    clear dne deq tne
    go_enter Tryz.func96,Tryz.ntmps96
    go_wp2_with fail
    refine h1.mono ?_;rintro e w' ⟨rfl,hw'⟩;obtain rfl:=hw'.symm
    go_wp2_with fail
    refine h2.mono ?_;rintro e w' ⟨rfl,hw'⟩;obtain rfl:=hw'.symm
    clear h1 h2
    go_wp2
    clear t1
    go_loopw [23] (fun i wr=>∃ (k:Nat),k≤S∧i = .int .i64 k∧Kp w wr∧∀ j,S≤j + k→j < S→xs.getD j 0 = ys.getD j 0) (fun i _=>S - (intOf i).toNat)
    case atStart=>exact ⟨0,Nat.zero_le _,rfl,hg,fun j _ _=>by omega⟩
    case round =>
      clear hg
      obtain ⟨k,hk,rfl,hg,hs⟩:=hrel
      by_cases ck:k < S
      · obtain ⟨hN,hM⟩:=HN.out
        obtain ⟨m,hm⟩:∃ m:Nat,m + k + 1 = S:=⟨S - 1 - k,by omega⟩
        obtain ⟨b,off,rfl,hc⟩:=HX.out.at (k:=m) (by omega)
        obtain ⟨b',off',rfl,hc'⟩:=HY.out.at (k:=m) (by omega)
        have e1:=kkeep hg (hc m (by omega))
        have e2:=kkeep hg (hc' m (by omega))
        have hm2:m = S - 1 - k:=by omega
        rw [hm2] at e1 e2
        have i0:(0:Int)≤(S:Int) - 1 - (k:Int):=by omega
        have i1:(S:Int) - 1 - (k:Int) < (S:Int):=by omega
        have i2:(k:Int) < (S:Int):=by omega
        have i3:wrap64 ((S:Int) - 1) = (S:Int) - 1:=by unfold wrap64;omega
        have i5:(k:Int)≤(S:Int) - 1:=by omega
        have i4:wrap64 ((S:Int) - 1 - (k:Int)) = (S:Int) - 1 - (k:Int):=by unfold wrap64;omega
        have rl:=fun h=>HL.out m (by omega) h (fun j a b=>hs j (by omega) b)
        have re:xs.getD m 0 = ys.getD m 0→∀ j,S≤j + (k + 1)→j < S→xs.getD j 0 = ys.getD j 0:=fun h j a b=>by
          by_cases e:j = m
          · subst e;exact h
          · exact hs j (by omega) b
        obtain ⟨X,hX⟩:∃ X,X = xs.getD m 0:=⟨_,rfl⟩
        obtain ⟨Y,hY⟩:∃ Y,Y = ys.getD m 0:=⟨_,rfl⟩
        rw [hm2] at hX hY
        rw [← hX] at e1
        rw [← hY] at e2
        rw [← hm2] at hX hY
        rw [← hX,← hY] at rl re
        clear hc hc' HX HY HN HD HL hs hN hM hX hY lS lT
        by_cases cx:X = Y
        · have hs2:=re cx
          subst cx
          have t1:(X != X) = false:=by simp
          clear rl re
          go_wp2
          refine wp_region_kp (by kernel_rfl) (by kernel_rfl) (fun ι _ G hG hall=>?_)
          have c0:∀ n,(G n).cell? ⟨b,off + (S - 1 - k),none⟩ = some (.int .u32 X):=fun n=>kkeep (hG n) e1
          have c1:∀ n,(G n).cell? ⟨b',off' + (S - 1 - k),none⟩ = some (.int .u32 X):=fun n=>kkeep (hG n) e2
          repeat (go_big_quiet_step (fail))
          refine wpQuiet_nil ?_
          rintro _ ⟨nq,rfl⟩
          have gq:=hG nq
          replace e1:=kkeep gq e1
          replace e2:=kkeep gq e2
          replace hg:=hg.trans gq
          clear c0 c1 hall hG gq
          go_wp2
          exact ⟨⟨k + 1,by omega,by go_num,hg,hs2⟩,by simp [intOf];omega⟩
        · have t1:(X != Y) = true:=by simp [cx]
          have hcm:=compare_u X Y
          rw [rl cx] at hcm
          clear rl re cx
          go_wp2
          refine wp_region_kp (by kernel_rfl) (by kernel_rfl) (fun ι _ G hG hall=>?_)
          have c0:∀ n,(G n).cell? ⟨b,off + (S - 1 - k),none⟩ = some (.int .u32 X):=fun n=>kkeep (hG n) e1
          have c1:∀ n,(G n).cell? ⟨b',off' + (S - 1 - k),none⟩ = some (.int .u32 Y):=fun n=>kkeep (hG n) e2
          repeat (go_big_quiet_step (fail))
          refine wpQuiet_nil ?_
          rintro _ ⟨nq,rfl⟩
          have gq:=hG nq
          replace e1:=kkeep gq e1
          replace e2:=kkeep gq e2
          replace hg:=hg.trans gq
          clear c0 c1 hall hG gq
          go_wp2
          go_region_held3 (fun w'=>w'.cell? ⟨b,off + (S - 1 - k),none⟩ = some (.int .u32 X)∧w'.cell? ⟨b',off' + (S - 1 - k),none⟩ = some (.int .u32 Y)) (exact ⟨e1,e2⟩) (first | (go_at_call 127;refine (hcm _).mono ?_;rintro e w' ⟨rfl,rfl⟩))
          go_wp2
          exact bodyPost_ret (v:=.int .i64 R) (by simp [results,Tryz.results96,go_sem] <;> simp only [*]) rfl ⟨rfl,(by repeat (with_reducible (first | assumption | exact Kp.refl _ | apply Kp.drew | apply Kp.alloc | apply Kp.drewN | (refine Kp.trans ?_ (by assumption)))))⟩
      · have hR0:=HD.out (fun j hj=>hs j (by omega) hj)
        subst hR0
        have i2:¬ ((k:Int) < (S:Int)):=by omega
        clear HX HY HN HD HL hs lS lT hk ck
        go_wp2
        exact bodyPost_ret (v:=.int .i64 0) (by simp [results,Tryz.results96,go_sem] <;> simp only [*]) rfl ⟨rfl,hg⟩
  · have t1:((S:Int) != (T:Int)) = true:=by simp;omega
    have hcm:=compare_i (S:Int) (T:Int)
    rw [dne cST] at hcm
    clear dne deq tne HX HY HN cST lS lT
    go_enter Tryz.func96,Tryz.ntmps96
    go_wp2_with fail
    refine h1.mono ?_;rintro e w' ⟨rfl,hw'⟩;obtain rfl:=hw'.symm
    go_wp2_with fail
    refine h2.mono ?_;rintro e w' ⟨rfl,hw'⟩;obtain rfl:=hw'.symm
    go_wp2_with (first | (go_at_call 126;refine (hcm _).mono ?_;rintro e w' ⟨rfl,rfl⟩))
    exact bodyPost_ret (v:=.int .i64 R) (by simp [results,Tryz.results96,go_sem] <;> simp only [*]) rfl ⟨rfl,hg⟩
theorem quotient_ (p q:Option Addr) (c d:Nat) (xs ys:List Int) (w:World) (hx:Arr w p xs) (hy:Arr w q ys) (hnx:xs = dig (val xs)) (hny:ys = dig (val ys)) (lx:xs.length≤1048576) (ly:ys.length≤1048576) (hc:xs.length≤c) (hd:ys.length≤d) (h0:0 < val ys) :
    Calls Tryz.prog 162 #[.slice p xs.length c,.slice q ys.length d] w fun e w'=>∃ v,e = .returned v∧Two w' w.heap.size (dig (val xs / val ys)) (dig (val xs % val ys)) v∧Kp w w':=by
  have hwx:Wd xs:=by rw [hnx];exact Wd_dig _
  have hwy:Wd ys:=by rw [hny];exact Wd_dig _
  have hcm:=ncmp_ p q c d xs ys w hx hy hwx hwy (by omega) (by omega) hc hd
  obtain ⟨N,hN⟩:∃ N,N = xs.length:=⟨_,rfl⟩
  obtain ⟨M,hM⟩:∃ M,M = ys.length:=⟨_,rfl⟩
  have hylast:ys.getD (ys.length - 1) 0≠0:=by
    rcases last_dig (val ys) with h | h
    · exfalso
      rw [← hny] at h
      rw [h] at h0
      exact absurd h0 (by simp [val])
    · rw [← hny] at h
      exact h
  have hM0:0 < M:=by
    by_cases e:M = 0
    · exfalso
      have:ys = []:=List.length_eq_zero_iff.1 (by omega)
      rw [this] at h0
      exact absurd h0 (by simp [val])
    · omega
  by_cases ca:val xs < val ys
  · rw [cmpN_lt ca] at hcm
    have hfr:=fun w' h=>fresh_ p c xs w' (hx.grown h) (by omega)
    have e1:val xs / val ys = 0:=Nat.div_eq_of_lt ca
    have e2:val xs % val ys = val xs:=Nat.mod_eq_of_lt ca
    rw [e1,e2,dig_zero,← hnx]
    rw [← hN] at hcm hfr
    rw [← hM] at hcm
    have lN:N≤1048576:=by omega
    have HX:Hid (N = xs.length):=hN
    rw [← hN,← hM]
    clear hx hy hnx hny lx ly hc hd h0 hwx hwy hylast hM0 ca e1 e2 hN hM
    go_enter Tryz.func162,Tryz.ntmps162
    go_wp2_with fail
    refine hcm.mono ?_
    rintro e w1 ⟨rfl,hk1⟩
    clear hcm
    have hf1:=hfr w1 hk1
    clear hfr
    go_wp2_with fail
    refine hf1.mono ?_
    rintro e w2 ⟨g,rfl,hg,hR,hk2⟩
    have hO:Own w2 w.heap.size (.slice (some ⟨g,0,none⟩) N N) xs:=by
      have h1:=Own.of_row (base:=w.heap.size) (k:=N) hR (by have:=hk1.size;omega) (Nat.le_refl _) HX.out.symm (by unfold maxLen;omega)
      rwa [List.take_of_length_le (by rw [← HX.out];exact Nat.le_refl _)] at h1
    have HZ:Hid (Two w2 w.heap.size [] xs (.tuple #[.slice none 0 0,.slice (some ⟨g,0,none⟩) N N])∧Kp w w2):=⟨⟨none,0,some ⟨g,0,none⟩,N,by rw [← HX.out];rfl,Own.nil _ _,by rw [← HX.out];exact hO,fun g e=>by cases e⟩,hk1.trans hk2⟩
    clear hf1 hg hR hk2 hO hk1
    go_wp2
    exact bodyPost_ret (v:=.tuple #[.slice none 0 0,.slice (some ⟨g,0,none⟩) N N]) (by simp [results,Tryz.results162,go_sem]) rfl ⟨_,rfl,HZ.out.1,HZ.out.2⟩
  · obtain ⟨cc,hcc⟩:∃ cc,cc = cmpN (val xs) (val ys):=⟨_,rfl⟩
    rw [← hcc] at hcm
    have hc0:¬ (cc < 0):=by
      rw [hcc];unfold cmpN;rw [if_neg ca];split <;> omega
    clear hcc
    by_cases cm:M = 1
    · have hc1:=hy.at (k:=0) (by omega)
      obtain ⟨b',off',rfl,hc'⟩:=hc1
      have e1:=hc' 0 (by omega)
      have wy:=hwy 0
      obtain ⟨b,hb⟩:∃ b:Nat,(b:Int) = ys.getD 0 0:=⟨_,Int.toNat_of_nonneg wy.1⟩
      rw [← hb,Nat.add_zero] at e1
      have hv:val ys = b:=by
        have h1:=val_take_succ ys 0
        rw [List.take_of_length_le (by omega),← hb] at h1
        simpa [val] using h1
      rw [hv] at h0 ⊢
      have hbo:=fun w' h=>byWord_ p c b xs w' (hx.grown h) hwx lx h0 (by omega)
      rw [← hN] at hcm hbo
      rw [← hM,cm] at hcm
      rw [← hN,← hM,cm]
      clear hx hy hnx hny lx ly hc hd h0 hwx hwy hylast hM0 ca hN hM hc' wy hb hv cm
      go_enter Tryz.func162,Tryz.ntmps162
      go_wp2_with fail
      refine hcm.mono ?_
      rintro e w1 ⟨rfl,hk1⟩
      clear hcm
      have hb1:=hbo w1 hk1
      replace e1:=kkeep hk1 e1
      clear hbo
      go_wp2_with fail
      refine hb1.mono ?_
      rintro e w2 ⟨v,rfl,⟨p1,c1,p2,c2,rfl,o1,o2,hne⟩,hk2⟩
      obtain ⟨L1,hL1⟩:∃ L1,L1 = (dig (val xs / b)).length:=⟨_,rfl⟩
      obtain ⟨L2,hL2⟩:∃ L2,L2 = (dig (val xs % b)).length:=⟨_,rfl⟩
      have HZ:Hid (Two w2 w.heap.size (dig (val xs / b)) (dig (val xs % b)) (.tuple #[.slice p1 L1 c1,.slice p2 L2 c2])∧Kp w w2):=⟨⟨p1,c1,p2,c2,by rw [hL1,hL2],o1.mono hk1.size,o2.mono hk1.size,hne⟩,hk1.trans hk2⟩
      rw [← hL1,← hL2]
      clear hb1 o1 o2 hne hk2 hk1 e1 hL1 hL2
      go_wp2
      exact bodyPost_ret (v:=.tuple #[.slice p1 L1 c1,.slice p2 L2 c2]) (by simp [results,Tryz.results162,go_sem]) rfl ⟨_,rfl,HZ.out.1,HZ.out.2⟩
    · have hle:ys.length≤xs.length:=by
        have h1:=len32_mono (show val ys≤val xs by omega)
        unfold len32 at h1
        rwa [← hnx,← hny] at h1
      have hbw:=fun w' h=>byWords_ p q c d xs ys w' (hx.grown h) (hy.grown h) hwx hwy lx hle (by omega) hylast
      rw [← hN,← hM] at hcm hbw
      rw [← hN,← hM]
      have t1:¬ (M:Int) = 1:=by omega
      clear hx hy hnx hny lx ly hc hd h0 hwx hwy hylast hM0 ca hN hM hle cm
      go_enter Tryz.func162,Tryz.ntmps162
      go_wp2_with fail
      refine hcm.mono ?_
      rintro e w1 ⟨rfl,hk1⟩
      clear hcm
      have hb1:=hbw w1 hk1
      clear hbw
      go_wp2_with fail
      refine hb1.mono ?_
      rintro e w2 ⟨v,rfl,⟨p1,c1,p2,c2,rfl,o1,o2,hne⟩,hk2⟩
      obtain ⟨L1,hL1⟩:∃ L1,L1 = (dig (val xs / val ys)).length:=⟨_,rfl⟩
      obtain ⟨L2,hL2⟩:∃ L2,L2 = (dig (val xs % val ys)).length:=⟨_,rfl⟩
      have HZ:Hid (Two w2 w.heap.size (dig (val xs / val ys)) (dig (val xs % val ys)) (.tuple #[.slice p1 L1 c1,.slice p2 L2 c2])∧Kp w w2):=⟨⟨p1,c1,p2,c2,by rw [hL1,hL2],o1.mono hk1.size,o2.mono hk1.size,hne⟩,hk1.trans hk2⟩
      rw [← hL1,← hL2]
      clear hb1 o1 o2 hne hk2 hk1 hL1 hL2
      go_wp2
      exact bodyPost_ret (v:=.tuple #[.slice p1 L1 c1,.slice p2 L2 c2]) (by simp [results,Tryz.results162,go_sem]) rfl ⟨_,rfl,HZ.out.1,HZ.out.2⟩
end Go.Proofs.YtnileplkkmhdgaaGreatDoor
