import Derived.Test.YtfhcmabejagknaaGreatDoorKTGx
import Derived.Test.YtfhcmabejagknaaGreatDoorKTOu
set_option maxHeartbeats 1000000
set_option maxRecDepth 20000
namespace Go.Proofs.YtfhcmabejagknaaGreatDoor
open Go.RowKit
theorem intN_ (N:Nat) (hN:1≤N) (hN2:N < 9223372036854775808) (w:World):Calls Tryz.prog 28 #[.int .i64 (N:Int)] w fun e w'=>∃ s p l c q k d,e = .returned (.agg #[.bool s,.slice p l c,.slice q k d])∧XP w.heap.size w' s p l c q k d (N:Int) 1 100∧Kp w w':=by
  obtain ⟨B,hB⟩:∃ B,B = w.heap.size:=⟨_,rfl⟩
  obtain ⟨w0,hw0⟩:∃ w0,w0 = w.alloc (.cells #[.bool false,.slice none 0 0,.slice none 0 0] 27):=⟨_,rfl⟩
  have kw:Kp w w0:=by rw [hw0];exact (Kp.refl w).alloc _
  have r0:w0.cell? ⟨B,0,none⟩ = some (.bool false):=by rw [hw0,hB];simp [go_sem]
  have r1:w0.cell? ⟨B,1,none⟩ = some (.slice none 0 0):=by rw [hw0,hB];simp [go_sem]
  have r2:w0.cell? ⟨B,2,none⟩ = some (.slice none 0 0):=by rw [hw0,hB];simp [go_sem]
  have f0:w0.frozen? ⟨B,0,none⟩ = false:=by rw [hw0,hB];simp [go_sem]
  have f1:w0.frozen? ⟨B,1,none⟩ = false:=by rw [hw0,hB];simp [go_sem]
  have f2:w0.frozen? ⟨B,2,none⟩ = false:=by rw [hw0,hB];simp [go_sem]
  have hlt:=cell_lt r0
  have hbl:blen N≤32 * 2:=(blen_le_iff N 64).2 (by omega)
  have j0:¬ ((N:Int) < 0):=by omega
  have j1:IntKind.u64.wrap (N:Int) = (N:Int):=by rw [IntKind.wrap_u64];omega
  have hs:=rsmall_ N (by omega) w0
  have HW:Hid (w0 = w.alloc (.cells #[.bool false,.slice none 0 0,.slice none 0 0] 27)∧B = w.heap.size∧Kp w w0):=⟨hw0,hB,kw⟩
  clear hw0 hB kw
  go_enter Tryz.func28,Tryz.ntmps28
  go_wp2_with fail
  rw [← HW.out.2.1]
  try rw [← HW.out.1]
  refine hs.mono ?_;rintro e w1 ⟨v,rfl,ho,k1⟩
  obtain ⟨pv,cv,rfl,hav,hcv⟩:=ho.arr
  obtain ⟨L,hL⟩:∃ L,L = (dig N).length:=⟨_,rfl⟩
  rw [← hL]
  obtain ⟨g4,hg4⟩:∃ g4,g4 = w1.heap.size:=⟨_,rfl⟩
  obtain ⟨w4,hw4⟩:∃ w4,w4 = w1.alloc (.cells #[.int .u32 1] 86):=⟨_,rfl⟩
  have k4:Kp w1 w4:=by rw [hw4];exact (Kp.refl _).alloc _
  have ar4:Arr w4 (some ⟨g4,0,none⟩) (dig 1):=by
    have h:=(row1 w1 1).all rfl
    rw [← hw4,← hg4] at h
    rw [dig_one6]
    exact h
  have h:=fracX_ false (.slice pv (dig N).length cv) (.slice (some ⟨g4,0,none⟩) (dig 1).length 1) (dig N) (dig 1) 0 w4 ⟨pv,cv,rfl,hav.grown k4,hcv⟩ ⟨some ⟨g4,0,none⟩,1,rfl,ar4,by rw [dig_one6];decide⟩ (Wd_dig _) (Wd_dig _) (Nat.le_trans (dlen N 2 hbl) (by decide)) (by rw [dig_one6];decide) (by rw [val_dig];decide) (by decide)
  rw [val_dig,val_dig] at h
  rw [show (dig 1).length = 1 from by rw [dig_one6];rfl] at h
  rw [← hL] at h
  have k04:=k1.trans k4
  have HG:Hid (g4 = w1.heap.size∧w4 = w1.alloc (.cells #[.int .u32 1] 86)):=⟨hg4,hw4⟩
  replace r0:=kkeep k04 r0
  replace r1:=kkeep k04 r1
  replace r2:=kkeep k04 r2
  replace f0:=(kfro k04 hlt).trans f0
  replace f1:=(kfro k04 hlt).trans f1
  replace f2:=(kfro k04 hlt).trans f2
  have HK:Hid (Kp w0 w4∧B < w0.heap.size):=⟨k04,hlt⟩
  have hlt4:=cell_lt r0
  clear hs ho hav hcv hL hg4 hw4 k4 ar4 k1 k04 hlt
  go_wp2_with fail
  rw [← HG.out.1,← HG.out.2]
  refine h.mono ?_;rintro e w5 ⟨vn,vd,a',b',ng,rfl,o1,o2,ff,k5⟩
  obtain ⟨pn,cn,rfl,an,ln⟩:=o1.arr
  obtain ⟨pd,cd,rfl,ad,ld⟩:=o2.arr
  replace r0:=kkeep k5 r0
  replace r1:=kkeep k5 r1
  replace r2:=kkeep k5 r2
  replace f0:=(kfro k5 hlt4).trans f0
  replace f1:=(kfro k5 hlt4).trans f1
  replace f2:=(kfro k5 hlt4).trans f2
  have z1:a' = N∧b' = 1:=by
    obtain ⟨oa,ob,ka,kb,x,y,g1,g2,g3,g4,g5,g6,g7,g8⟩:=ff.1.2.2 (by omega)
    obtain ⟨r1,r2⟩:=odd_one ob 0 kb g2 g4
    subst r1 r2
    have hy:y = 0∧x = ka:=by rcases g7 with h | h <;> constructor <;> omega
    rw [hy.2] at g5
    rw [hy.1] at g6
    exact ⟨by rw [g5,g3],by rw [g6]⟩
  have hp:XP w4.heap.size w5 ng pn (dig a').length cn pd (dig b').length cd (N:Int) 1 100 :=
    ⟨a',b',o1,o2,by omega,by decide,by rw [z1.1,z1.2,ff.2 (by omega)];unfold rvI;simp,by rw [z1.1];omega,by rw [z1.2];decide⟩
  have hq:=(((hp.set (x:=⟨B,0,none⟩) hlt4 (.bool ng)).set (x:=⟨B,1,none⟩) hlt4 (.slice pn (dig a').length cn)).set (x:=⟨B,2,none⟩) hlt4 (.slice pd (dig b').length cd)).mono (base':=w.heap.size) (by have h1:=Below.size HW.out.2.2;have h2:=Below.size HK.out.1;omega)
  have hkw:Kp w (((w5.setCell ⟨B,0,none⟩ (.bool ng)).setCell ⟨B,1,none⟩ (.slice pn (dig a').length cn)).setCell ⟨B,2,none⟩ (.slice pd (dig b').length cd)):=by
    have hB:=HW.out.2.1
    exact ((((HW.out.2.2.trans HK.out.1).trans k5).setCell (by rw [hB];exact Nat.le_refl _) _).setCell (by rw [hB];exact Nat.le_refl _) _).setCell (by rw [hB];exact Nat.le_refl _) _
  generalize (dig a').length = La at hq hkw ⊢
  generalize (dig b').length = Lb at hq hkw ⊢
  have HO:Hid (_∧_):=⟨hq,hkw⟩
  clear h hp hq hkw o1 o2 ff z1 hbl hN hN2 k5 an ln ad ld hlt4 HG
  go_wp2
  exact bodyPost_ret (v:=.agg #[.bool ng,.slice pn La cn,.slice pd Lb cd]) (by simp [results,Tryz.results28,go_sem,r0,r1,r2]) rfl ⟨ng,pn,La,cn,pd,Lb,cd,rfl,HO.out.1,HO.out.2⟩
theorem blen_two (j:Nat):blen (2 ^ j) = j + 1:=blen_uniq _ j (Nat.le_refl _) (by rw [Nat.pow_succ];have:=Nat.two_pow_pos j;omega)
theorem Dy.xp {base:Nat} {w:World} {s1:Bool} {p1:Option Addr} {l1 c1:Nat} {q1:Option Addr} {k1 d1:Nat} {V:Int} {E:Nat} (h:Dy base w s1 p1 l1 c1 q1 k1 d1 V E) (N:Nat) (hV:V.natAbs < 2 ^ N) (hE:E + 1≤N):XP base w s1 p1 l1 c1 q1 k1 d1 V (2 ^ E) N:=by
  obtain ⟨a,j,h1,h2,⟨g1,g2,g3⟩,h4⟩:=h
  have ha:a < 2 ^ N:=by
    have:a * 1≤a * 2 ^ (E - j):=Nat.mul_le_mul (Nat.le_refl _) Nat.one_le_two_pow
    omega
  refine ⟨a,2 ^ j,h1,h2,Nat.ne_of_gt (Nat.two_pow_pos _),Nat.ne_of_gt (Nat.two_pow_pos _), ?_,(blen_le_iff _ _).2 ha,by rw [blen_two];omega⟩
  have e:((2 ^ E:Nat):Int) = ((2 ^ (E - j):Nat):Int) * ((2 ^ j:Nat):Int):=by rw [← Int.natCast_mul,← Nat.pow_add];congr 2;omega
  have e2:((a:Int)) * ((2 ^ (E - j):Nat):Int) = ((V.natAbs:Nat):Int):=by rw [← Int.natCast_mul,g3]
  rw [e,← Int.mul_assoc]
  by_cases z:V = 0
  · have:((a:Int)) * ((2 ^ (E - j):Nat):Int) = 0:=by rw [e2,z];rfl
    have h0:rvI s1 a * ((2 ^ (E - j):Nat):Int) = 0:=by
      unfold rvI
      cases s1
      · simpa using this
      · simp only [if_true,Int.neg_mul,this];rfl
    rw [h0,z]
  · have hs:=h4 z
    congr 1
    unfold rvI
    by_cases c:V < 0
    · rw [hs,decide_eq_true c]
      simp only [if_true,Int.neg_mul,e2];omega
    · rw [hs,decide_eq_false c]
      simp only [Bool.false_eq_true,if_false,e2];omega
theorem rootOfWord_ (v:Nat) (hv:v < 18446744073709551616) (w:World) :
    Calls Tryz.prog 137 #[.int .u64 (v:Int)] w fun e w'=>∃ r,e = .returned r∧Two w' w.heap.size (dig (rtN v)) (dig (v - rtN v * rtN v)) r∧Kp w w':=by
  have HV:Hid (v < 18446744073709551616):=hv
  clear hv
  go_enter Tryz.func137,Tryz.ntmps137
  go_wp2
  go_loop [4,7] (fun rr ii=>∃ k r:Nat,rr = .int .u64 (r:Int)∧ii = .int .i64 (k:Int)∧k≤32∧RI v r (32 - k)) (fun _ i=>32 - (intOf i).toNat)
  case atStart=>exact ⟨0,0,rfl,rfl,by omega,RI.start v HV.out⟩
  case round =>
    obtain ⟨k,r,rfl,rfl,hk,hI⟩:=hrel
    by_cases ck:k < 32
    · obtain ⟨e,he⟩:∃ e,e = 31 - k:=⟨_,rfl⟩
      rw [show 32 - k = e + 1 from by omega] at hI
      obtain ⟨h1,h2,h3,h4,h5⟩:=hI.tries
      obtain ⟨P,hP⟩:∃ P,P = 2 ^ e:=⟨_,rfl⟩
      obtain ⟨t,ht⟩:∃ t,t = r + 2 ^ e:=⟨_,rfl⟩
      have f1:(31:Int) - (k:Int) = (e:Int):=by omega
      have f1b:IntKind.i64.wrap (31 - (k:Int)) = (e:Int):=by rw [IntKind.wrap_i64];omega
      have hPc:((2:Int) ^ e) = (P:Int):=by rw [hP];norm_cast
      have f2:IntKind.u64.wrap ((2:Int) ^ e) = (P:Int):=by rw [hPc,IntKind.wrap_u64];omega
      have f2b:IntKind.u64.wrap (1 * (2:Int) ^ e) = (P:Int):=by rw [Int.one_mul];exact f2
      have f3:bits BinOp.or IntKind.u64 (r:Int) (P:Int) = (t:Int):=by
        rw [bits_or_u64_nat r P (by omega) (by omega),hP,h1,← ht]
      obtain ⟨S,hS⟩:∃ S,S = t * t:=⟨_,rfl⟩
      have f4:IntKind.u64.wrap ((t:Int) * (t:Int)) = (S:Int):=by
        have e9:(t:Int) * (t:Int) = (S:Int):=by rw [hS];exact (Int.natCast_mul t t).symm
        rw [← ht,← hS] at h3
        rw [e9,IntKind.wrap_u64];omega
      have i1:(k:Int) < 32:=by omega
      by_cases ct:S≤v
      · have hI2:=hI.up (by rw [← ht,← hS];exact ct)
        rw [← ht,show e = 32 - (k + 1) from by omega] at hI2
        have t1:(S:Int)≤(v:Int):=by omega
        have HI:Hid (RI v t (32 - (k + 1))∧k + 1≤32):=⟨hI2,by omega⟩
        clear HV hk hI ck he h1 h2 h3 h4 h5 hP ht hS ct hI2 hPc
        go_wp2
        exact ⟨⟨k + 1,t,rfl,by go_num,HI.out.2,HI.out.1⟩,by simp [intOf];omega⟩
      · have hI2:=hI.stay (by rw [← ht,← hS];exact ct)
        rw [show e = 32 - (k + 1) from by omega] at hI2
        have t1:¬ (S:Int)≤(v:Int):=by omega
        have HI:Hid (RI v r (32 - (k + 1))∧k + 1≤32):=⟨hI2,by omega⟩
        clear HV hk hI ck he h1 h2 h3 h4 h5 hP ht hS ct hI2 hPc
        go_wp2
        exact ⟨⟨k + 1,r,rfl,by go_num,HI.out.2,HI.out.1⟩,by simp [intOf];omega⟩
    · have hk32:k = 32:=by omega
      subst hk32
      obtain ⟨hd1,hd2⟩:=hI.done
      have hr:=hd1.eq
      obtain ⟨S,hS⟩:∃ S,S = r * r:=⟨_,rfl⟩
      obtain ⟨D,hD⟩:∃ D,D = v - r * r:=⟨_,rfl⟩
      have hSv:S≤v:=by rw [hS];exact hd1.1
      have hv:=HV.out
      have f4:IntKind.u64.wrap ((r:Int) * (r:Int)) = (S:Int):=by
        have e9:(r:Int) * (r:Int) = (S:Int):=by rw [hS];exact (Int.natCast_mul r r).symm
        rw [e9,IntKind.wrap_u64];omega
      have f5:IntKind.u64.wrap ((v:Int) - (S:Int)) = (D:Int):=by rw [IntKind.wrap_u64];omega
      have hs1:=nsmall_ r (by omega)
      have hs2:=nsmall_ D (by omega)
      have HR:Hid (r = rtN v∧D = v - rtN v * rtN v):=⟨hr,by rw [← hr];exact hD⟩
      clear HV hk hI ck hd1 hd2 hr hS hD hSv hv
      go_wp2_with fail
      refine (hs1 _).mono ?_
      rintro e w1 ⟨v1,rfl,hO1,hk1⟩
      clear hs1
      go_wp2_with fail
      refine (hs2 _).mono ?_
      rintro e w2 ⟨v2,rfl,hO2,hk2⟩
      obtain ⟨p1,c1,rfl,_⟩:=hO1.len
      obtain ⟨p2,c2,rfl,_⟩:=hO2.len
      have hTwo:Two w2 w.heap.size (dig r) (dig D) (.tuple #[.slice p1 (dig r).length c1,.slice p2 (dig D).length c2]):=by
        refine ⟨p1,c1,p2,c2,rfl,hO1.kp hk2,hO2.mono hk1.size,fun g e e2=>?_⟩
        subst e e2
        have h1:=hO1.above.2
        have h2:=hO2.above.1
        omega
      have HZ:Hid (Two w2 w.heap.size (dig (rtN v)) (dig (v - rtN v * rtN v)) (.tuple #[.slice p1 (dig r).length c1,.slice p2 (dig D).length c2])∧Kp w w2):=⟨by rw [← HR.out.2,← HR.out.1];exact hTwo,hk1.trans hk2⟩
      obtain ⟨K1,hK1⟩:∃ K1,K1 = (dig r).length:=⟨_,rfl⟩
      obtain ⟨K2,hK2⟩:∃ K2,K2 = (dig D).length:=⟨_,rfl⟩
      rw [← hK1,← hK2] at HZ ⊢
      clear hs2 hO1 hO2 hk1 hk2 hTwo hK1 hK2
      go_wp2
      exact bodyPost_ret (v:=.tuple #[.slice p1 K1 c1,.slice p2 K2 c2]) (by simp [results,Tryz.results137,go_sem]) rfl ⟨_,rfl,HZ.out.1,HZ.out.2⟩
theorem root2_ (p:Option Addr) (c:Nat) (xs:List Int) (w:World) (hx:Arr w p xs) (hwx:Wd xs) (l2:xs.length≤2) :
    Calls Tryz.prog 120 #[.slice p xs.length c] w fun e w'=>∃ v,e = .returned v∧Two w' w.heap.size (dig (rtN (val xs))) (dig (val xs - rtN (val xs) * rtN (val xs))) v∧Kp w w':=by
  have hlo:=lowest_ p c xs w hx hwx l2
  have hv:val xs < 18446744073709551616:=by
    have h1:=val_lt xs hwx
    have h2:4294967296 ^ xs.length≤4294967296 ^ 2:=Nat.pow_le_pow_right (by omega) l2
    have h3:(4294967296:Nat) ^ 2 = 18446744073709551616:=by decide
    omega
  have hrw:=rootOfWord_ (val xs) hv w
  obtain ⟨N,hN⟩:∃ N,N = xs.length:=⟨_,rfl⟩
  obtain ⟨V,hV⟩:∃ V,V = val xs:=⟨_,rfl⟩
  rw [← hN,← hV] at hlo
  rw [← hV] at hrw
  rw [← hN,← hV]
  have t1:(N:Int)≤2:=by omega
  clear hx hwx l2 hv hN hV
  go_enter Tryz.func120,Tryz.ntmps120
  go_wp2_with fail
  refine hlo.mono ?_;rintro e w' ⟨rfl,hw'⟩;obtain rfl:=hw'.symm;clear hlo
  go_wp2_with fail
  refine hrw.mono ?_
  rintro e w2 ⟨v,rfl,⟨p1,c1,p2,c2,rfl,o1,o2,hne⟩,hk2⟩
  obtain ⟨L1,hL1⟩:∃ L1,L1 = (dig (rtN V)).length:=⟨_,rfl⟩
  obtain ⟨L2,hL2⟩:∃ L2,L2 = (dig (V - rtN V * rtN V)).length:=⟨_,rfl⟩
  have HZ:Hid (Two w2 w.heap.size (dig (rtN V)) (dig (V - rtN V * rtN V)) (.tuple #[.slice p1 L1 c1,.slice p2 L2 c2])∧Kp w w2):=⟨⟨p1,c1,p2,c2,by rw [hL1,hL2],o1,o2,hne⟩,hk2⟩
  rw [← hL1,← hL2]
  clear hrw o1 o2 hne hk2 hL1 hL2 t1
  go_wp2
  exact bodyPost_ret (v:=.tuple #[.slice p1 L1 c1,.slice p2 L2 c2]) (by simp [results,Tryz.results120,go_sem]) rfl ⟨_,rfl,HZ.out.1,HZ.out.2⟩
theorem nroot_of (p:Option Addr) (c:Nat) (xs:List Int) (w:World) (hx:Arr w p xs) (hwx:Wd xs) (lx:xs.length≤1048576) (hc:xs.length≤c)
    (hroot:¬ 16384 < tl xs→Calls Tryz.prog 120 #[.slice p (tl xs) c] w fun e w'=>∃ v,e = .returned v∧Two w' w.heap.size (dig (rtN (val xs))) (dig (val xs - rtN (val xs) * rtN (val xs))) v∧Kp w w') :
    Calls Tryz.prog 92 #[.slice p xs.length c] w fun e w'=>∃ v,e = .returned (.tuple #[v,.bool (rootN (val xs)).2.1,.int .i64 (rootN (val xs)).2.2])∧Own w' w.heap.size v (rootN (val xs)).1∧Kp w w':=by
  have h1:=trim_ p c xs w hx (by omega) hc
  have l1:=tooLong_ p (tl xs) c w
  have hlx:tl xs = len32 (val xs):=tl_len xs hwx
  obtain ⟨N,hN⟩:∃ N,N = xs.length:=⟨_,rfl⟩
  obtain ⟨S,hS⟩:∃ S,S = tl xs:=⟨_,rfl⟩
  obtain ⟨V,hV⟩:∃ V,V = val xs:=⟨_,rfl⟩
  rw [← hN,← hS] at h1
  rw [← hS] at l1 hlx hroot
  rw [← hV] at hlx hroot
  rw [← hN,← hV]
  clear hx hwx lx hc hN hS hV
  unfold rootN
  by_cases cl:16384 < len32 V
  · rw [← hlx] at cl ⊢
    simp only [if_pos cl]
    rw [decide_eq_true cl] at l1
    clear hroot hlx cl
    go_enter Tryz.func92,Tryz.ntmps92
    go_wp2_with fail
    refine h1.mono ?_;rintro e w' ⟨rfl,hw'⟩;obtain rfl:=hw'.symm;clear h1
    go_wp2_with fail
    refine l1.mono ?_;rintro e w' ⟨rfl,hw'⟩;obtain rfl:=hw'.symm;clear l1
    go_wp2
    exact bodyPost_ret (v:=.tuple #[.slice none 0 0,.bool false,.int .i64 2]) (by simp [results,Tryz.results92,go_sem]) rfl ⟨_,rfl,Own.nil _ _,Kp.refl _⟩
  · rw [← hlx] at cl ⊢
    simp only [if_neg cl]
    have hr:=hroot cl
    rw [decide_eq_false cl] at l1
    obtain ⟨D,hD⟩:∃ D,D = V - rtN V * rtN V:=⟨_,rfl⟩
    obtain ⟨R,hR⟩:∃ R,R = rtN V:=⟨_,rfl⟩
    have hle:=(rtN_is V).1
    rw [← hD,← hR] at hr
    rw [← hR] at hle hD ⊢
    have hb:decide (V = R * R) = decide (D = 0):=by
      by_cases e:D = 0
      · rw [decide_eq_true e,decide_eq_true (by omega)]
      · rw [decide_eq_false e,decide_eq_false (by omega)]
    rw [hb]
    clear hroot hlx cl hD hR hle hb
    go_enter Tryz.func92,Tryz.ntmps92
    go_wp2_with fail
    refine h1.mono ?_;rintro e w' ⟨rfl,hw'⟩;obtain rfl:=hw'.symm;clear h1
    go_wp2_with fail
    refine l1.mono ?_;rintro e w' ⟨rfl,hw'⟩;obtain rfl:=hw'.symm;clear l1
    go_wp2_with fail
    refine hr.mono ?_
    rintro e w2 ⟨v,rfl,⟨p1,c1,p2,c2,rfl,o1,o2,hne⟩,hk2⟩
    obtain ⟨L1,hL1⟩:∃ L1,L1 = (dig R).length:=⟨_,rfl⟩
    obtain ⟨L2,hL2⟩:∃ L2,L2 = (dig D).length:=⟨_,rfl⟩
    have h0:=dig_len_zero D
    rw [← hL2] at h0
    obtain ⟨bb,hbb⟩:∃ bb,bb = decide (D = 0):=⟨_,rfl⟩
    have tb:decide ((L2:Int) = 0) = bb:=by
      rw [hbb]
      by_cases e:D = 0
      · rw [decide_eq_true e,decide_eq_true (by have:=h0.2 e;omega)]
      · rw [decide_eq_false e,decide_eq_false (by have:=mt h0.1 e;omega)]
    have tb2:((L2:Int) == 0) = bb:=tb
    have HZ:Hid (Own w2 w.heap.size (.slice p1 L1 c1) (dig R)∧Kp w w2∧bb = decide (D = 0)):=⟨by rw [hL1];exact o1,hk2,hbb⟩
    rw [← hL1,← hL2]
    clear hr o1 o2 hne hk2 hL1 hL2 h0 hbb tb
    go_wp2
    exact bodyPost_ret (v:=.tuple #[.slice p1 L1 c1,.bool bb,.int .i64 0]) (by simp [results,Tryz.results92,go_sem]) rfl ⟨_,by rw [HZ.out.2.2],HZ.out.1,HZ.out.2.1⟩

def Sm (K a:Nat):Prop:=a < 4294967296 ^ K
theorem Sm.mono {K J a:Nat} (h:Sm K a) (hk:K≤J):Sm J a:=Nat.lt_of_lt_of_le h (Nat.pow_le_pow_right (by decide) hk)
theorem Sm.add {K a b:Nat} (h:Sm K a) (k:Sm K b):Sm (K + 1) (a + b):=by
  unfold Sm at *
  rw [Nat.pow_succ]
  generalize 4294967296 ^ K = P at *
  omega
theorem Sm.mul {K J a b:Nat} (h:Sm K a) (k:Sm J b):Sm (K + J) (a * b):=by
  unfold Sm at *
  rw [Nat.pow_add]
  by_cases e:b = 0
  · subst e
    rw [Nat.mul_zero]
    exact Nat.mul_pos (Nat.pow_pos (by decide)) (Nat.pow_pos (by decide))
  · exact Nat.mul_lt_mul_of_lt_of_le h (Nat.le_of_lt k) (by omega)
theorem Sm.one {K:Nat} (h:0 < K):Sm K 1:=Nat.one_lt_pow (by omega) (by decide)
theorem Sm.len {K a:Nat} (h:Sm K a):len32 a≤K:=by
  by_cases c:len32 a≤K
  · exact c
  · exfalso
    have:=len32_lt a K (by omega)
    unfold Sm at h
    omega
theorem Sm.val {xs:List Int} (h:Wd xs):Sm xs.length (Go.Proofs.YtfhcmabejagknaaGreatDoor.val xs):=val_lt xs h
def LsN (w:World) (v:Value) (L:List Int):Prop:=∃ p c,v = .slice p L.length c∧Arr w p L∧L.length≤c
theorem LsN.kp {w w':World} {v:Value} {L:List Int} (h:LsN w v L) (k:Kp w w'):LsN w' v L:=by
  obtain ⟨p,c,e,hA,hc⟩:=h
  exact ⟨p,c,e,hA.grown k,hc⟩
theorem Own.lsN {w:World} {base:Nat} {v:Value} {L:List Int} (h:Own w base v L):LsN w v L:=by
  obtain ⟨p,c,e,hA,hc⟩:=h.arr
  exact ⟨p,c,e,hA,hc⟩
theorem sl32t (b off h N c:Nat) (hc:h≤c) (w:World):(Instr.slice 25 (.slice (some ⟨b,off,none⟩) N c) none (some (.int .i64 (h:Int))) none).run Tryz.prog w = .ok (.slice (some ⟨b,off,none⟩) h c) w:=by
  rw [run_slice_h w 25 (some ⟨b,off,none⟩) N c Tryz.underlying25 .i64 (h:Int) (by omega) (by omega)]
  have e:(sizeOf (Tryz.prog.elem 25)).run Tryz.prog w = .ok 1 w:=by kernel_rfl
  rw [e]
  simp [Result.andThen,sliced,Addr.add_lit]
theorem remnant_ (p:Option Addr) (c m:Nat) (xs:List Int) (w:World) (hx:Arr w p xs) (hwx:Wd xs) (lx:xs.length≤1048576) (hc:xs.length≤c) (ho:m / 32 < xs.length) :
    Calls Tryz.prog 138 #[.slice p xs.length c,.int .i64 (m:Int)] w fun e w'=>∃ v,e = .returned v∧Own w' w.heap.size v (dig (val xs % 2 ^ m))∧Kp w w':=by
  obtain ⟨o,ho9⟩:∃ o,o = m / 32:=⟨_,rfl⟩
  obtain ⟨s,hs⟩:∃ s,s = m % 32:=⟨_,rfl⟩
  rw [← ho9] at ho
  have hms:m = 32 * o + s:=by omega
  have hs32:s < 32:=by omega
  have f1:(m:Int) / 32 = (o:Int):=by omega
  have f2:(m:Int) % 32 = (s:Int):=by omega
  obtain ⟨b,off,rfl,hcell⟩:=hx.at (k:=o) ho
  have hfr:=fresh_ (some ⟨b,off,none⟩) c (xs.take (o + 1)) w (hx.take _) (by rw [List.length_take];omega)
  have hlt:(xs.take (o + 1)).length = o + 1:=by rw [List.length_take];omega
  rw [hlt] at hfr
  have wx:=hwx o
  obtain ⟨X,hX⟩:∃ X:Nat,(X:Int) = xs.getD o 0:=⟨_,Int.toNat_of_nonneg wx.1⟩
  have hrv:=rem_val xs hwx o s X hs32 ho (by rw [← hX];rfl)
  rw [← hms] at hrv
  have hsl:=sl32t b off (o + 1) xs.length c (by omega)
  rw [show ((o + 1:Nat):Int) = (o:Int) + 1 from by omega] at hsl
  obtain ⟨P,hP⟩:∃ P,P = 2 ^ s:=⟨_,rfl⟩
  have hP0:0 < P:=by rw [hP];exact Nat.pow_pos (by omega)
  have hP32:P < 4294967296:=by
    rw [hP]
    have:(2:Nat) ^ s < 2 ^ 32:=Nat.pow_lt_pow_right (by decide) hs32
    exact this
  obtain ⟨P1,hP1⟩:∃ P1,P1 = P - 1:=⟨_,rfl⟩
  have hPc:((2:Int) ^ s) = (P:Int):=by rw [hP];norm_cast
  have g1:IntKind.u32.wrap ((2:Int) ^ s) = (P:Int):=by rw [hPc,IntKind.wrap_u32];omega
  have g1b:IntKind.u32.wrap (1 * (2:Int) ^ s) = (P:Int):=by rw [Int.one_mul];exact g1
  have g2:IntKind.u32.wrap ((P:Int) - 1) = (P1:Int):=by rw [IntKind.wrap_u32];omega
  obtain ⟨Z,hZ⟩:∃ Z,Z = X % 2 ^ s:=⟨_,rfl⟩
  have hZ32:Z < 4294967296:=by have:=Nat.mod_le X (2 ^ s);omega
  have g3:bits BinOp.and IntKind.u32 (X:Int) (P1:Int) = (Z:Int):=by
    rw [u32_and_nat X P1 (by omega) (by omega),hP1,hP,Nat.and_two_pow_sub_one_eq_mod,← hZ]
  rw [← hZ] at hrv
  obtain ⟨ys,hys⟩:∃ ys,ys = xs.take (o + 1):=⟨_,rfl⟩
  rw [← hys] at hfr hlt hrv
  have hwy:Wd ys:=by rw [hys];exact hwx.take _
  have hyX:ys.getD o 0 = (X:Int):=by rw [hys,hX];simp [List.getD]
  obtain ⟨N,hN⟩:∃ N,N = xs.length:=⟨_,rfl⟩
  rw [← hN] at hsl
  rw [← hN]
  have lo:o≤1048576:=by omega
  have i0:(0:Int)≤(o:Int):=by omega
  have i1:(o:Int) < (o:Int) + 1:=by omega
  have i2:(0:Int)≤(s:Int):=by omega
  have HY:Hid (ys.length = o + 1∧Wd ys∧ys.getD o 0 = (X:Int)∧val (ys.set o (Z:Int)) = val xs % 2 ^ m∧Z < 4294967296):=⟨hlt,hwy,hyX,hrv,hZ32⟩
  clear hx hwx lx hc ho ho9 hs hms hs32 hcell hlt wx hX hrv hP hP0 hP32 hP1 hPc hZ hZ32 hys hwy hyX hN
  go_enter Tryz.func138,Tryz.ntmps138
  go_wp2_with fail
  refine hfr.mono ?_
  rintro e w1 ⟨g,rfl,hg,hR,hk⟩
  obtain ⟨hyl,hwy,hyX,hyv,hZ32⟩:=HY.out
  have e1:=World.rowIs.cell hR (i:=o) (by omega)
  rw [hyX] at e1
  have e4:=World.rowIs.frozen hR o
  have hR2:Rw (w1.setCell ⟨g,o,none⟩ (.int .u32 (Z:Int))).drew g (o + 1) (ys.set o (Z:Int)):=hR.set o (Z:Int) (by omega)
  have hK2:Kp w (w1.setCell ⟨g,o,none⟩ (.int .u32 (Z:Int))).drew:=(hk.setCell hg _).drew
  have hl2:(ys.set o (Z:Int)).length = o + 1:=by rw [List.length_set];exact hyl
  have hw2:Wd (ys.set o (Z:Int)):=hwy.set o Z (by omega)
  have htr:=trim_ (some ⟨g,0,none⟩) (o + 1) (ys.set o (Z:Int)) _ (hR2.all hl2) (by omega) (by omega)
  have hO:Own (w1.setCell ⟨g,o,none⟩ (.int .u32 (Z:Int))).drew w.heap.size (.slice (some ⟨g,0,none⟩) (tl (ys.set o (Z:Int))) (o + 1)) (dig (val xs % 2 ^ m)):=by
    have h1:=Own.of_row (base:=w.heap.size) (k:=tl (ys.set o (Z:Int))) hR2 hg (by have:=tl_le (ys.set o (Z:Int));omega) hl2 (by unfold maxLen;omega)
    have h2:(ys.set o (Z:Int)).take (tl (ys.set o (Z:Int))) = dig (val xs % 2 ^ m):=by rw [← hyv,← nz_dig _ hw2];rfl
    rw [h2] at h1
    exact h1
  rw [hl2] at htr
  obtain ⟨T,hT⟩:∃ T,T = tl (ys.set o (Z:Int)):=⟨_,rfl⟩
  rw [← hT] at htr hO
  have HZ:Hid (Own (w1.setCell ⟨g,o,none⟩ (.int .u32 (Z:Int))).drew w.heap.size (.slice (some ⟨g,0,none⟩) T (o + 1)) (dig (val xs % 2 ^ m))∧Kp w (w1.setCell ⟨g,o,none⟩ (.int .u32 (Z:Int))).drew):=⟨hO,hK2⟩
  clear hfr HY hyl hwy hyX hyv hZ32 hR2 hK2 hl2 hw2 hO hT hR hk hg hsl
  go_wp2
  first | (go_region_with (fail)) | fail
  all_goals
    clear e1 e4 g1 g1b g2 g3
    go_wp2_with (first | (go_at_call 90;refine htr.mono ?_;rintro e w' ⟨rfl,hw'⟩;obtain rfl:=hw'.symm))
    exact bodyPost_ret (v:=.slice (some ⟨g,0,none⟩) T (o + 1)) (by simp [results,Tryz.results138,go_sem]) rfl ⟨_,rfl,HZ.out.1,HZ.out.2⟩
theorem raised0_ (p:Option Addr) (c:Nat) (m:Int) (w:World) :
    Calls Tryz.prog 119 #[.slice p 0 c,.int .i64 m] w fun e w'=>∃ v,e = .returned v∧Own w' w.heap.size v []∧Kp w w':=by
  go_enter Tryz.func119,Tryz.ntmps119
  go_wp2
  exact bodyPost_ret (v:=.slice none 0 0) (by simp [results,Tryz.results119,go_sem]) rfl ⟨_,rfl,Own.nil _ _,Kp.refl _⟩
theorem LsN.len {w:World} {v:Value} {L:List Int} (h:LsN w v L):∃ p c,v = .slice p L.length c∧Arr w p L∧L.length≤c:=h
theorem raisedB (v:Value) (a m:Nat) (w:World) (h:LsN w v (dig a)) (l:(dig a).length≤1048576) (hm:m≤16777216) :
    Calls Tryz.prog 119 #[v,.int .i64 (m:Int)] w fun e w'=>∃ v',e = .returned v'∧Own w' w.heap.size v' (dig (a * 2 ^ m))∧Kp w w':=by
  obtain ⟨p,c,rfl,hA,hc⟩:=h
  by_cases e0:(dig a).length = 0
  · have ha:=(dig_len_zero a).1 e0
    have h:=raised0_ p c (m:Int) w
    rw [e0,ha,Nat.zero_mul,dig_zero]
    exact h
  have h:=raised_ p c m (dig a) w hA (Wd_dig a) (by omega) l hm
  rw [val_dig] at h
  exact h
theorem loweredB (v:Value) (a m:Nat) (w:World) (h:LsN w v (dig a)) (l:(dig a).length≤1048576) (hm9:(m:Int) < 9223372036854775808) :
    Calls Tryz.prog 126 #[v,.int .i64 (m:Int)] w fun e w'=>∃ v',e = .returned v'∧Own w' w.heap.size v' (dig (a / 2 ^ m))∧Kp w w':=by
  obtain ⟨p,c,rfl,hA,hc⟩:=h
  have h:=lowered_ p c m (dig a) w hA (Wd_dig a) l hc hm9
  rw [val_dig] at h
  exact h
theorem remB (v:Value) (a m:Nat) (w:World) (h:LsN w v (dig a)) (l:(dig a).length≤1048576) (ho:m / 32 < (dig a).length) :
    Calls Tryz.prog 138 #[v,.int .i64 (m:Int)] w fun e w'=>∃ v',e = .returned v'∧Own w' w.heap.size v' (dig (a % 2 ^ m))∧Kp w w':=by
  obtain ⟨p,c,rfl,hA,hc⟩:=h
  have h:=remnant_ p c m (dig a) w hA (Wd_dig a) l hc ho
  rw [val_dig] at h
  exact h
theorem sumB (v1 v2:Value) (a b:Nat) (w:World) (h1:LsN w v1 (dig a)) (h2:LsN w v2 (dig b)) (l1:(dig a).length≤1048576) (l2:(dig b).length≤1048576) :
    Calls Tryz.prog 122 #[v1,v2] w fun e w'=>∃ v',e = .returned v'∧Own w' w.heap.size v' (dig (a + b))∧Kp w w':=by
  obtain ⟨p,c,rfl,hA,hc⟩:=h1
  obtain ⟨q,d,rfl,hB,hd⟩:=h2
  have h:=sum_any p q c d (dig a) (dig b) w hA hB (Wd_dig a) (Wd_dig b) (by omega) (by omega)
  rw [val_dig,val_dig] at h
  exact h
theorem prodB (v1 v2:Value) (a b:Nat) (w:World) (h1:LsN w v1 (dig a)) (h2:LsN w v2 (dig b)) (l1:(dig a).length≤1048576) (l2:(dig b).length≤1048576) :
    Calls Tryz.prog 139 #[v1,v2] w fun e w'=>∃ v',e = .returned v'∧Own w' w.heap.size v' (dig (a * b))∧Kp w w':=by
  obtain ⟨p,c,rfl,hA,hc⟩:=h1
  obtain ⟨q,d,rfl,hB,hd⟩:=h2
  have h:=product_ p q c d (dig a) (dig b) w hA hB (Wd_dig a) (Wd_dig b) (by omega) (by omega)
  rw [val_dig,val_dig] at h
  exact h
theorem diffB (v1 v2:Value) (a b:Nat) (w:World) (h1:LsN w v1 (dig a)) (h2:LsN w v2 (dig b)) (l1:(dig a).length≤1048576) (_l2:(dig b).length≤1048576) (hle:b≤a) :
    Calls Tryz.prog 140 #[v1,v2] w fun e w'=>∃ v',e = .returned v'∧Own w' w.heap.size v' (dig (a - b))∧Kp w w':=by
  obtain ⟨p,c,rfl,hA,hc⟩:=h1
  obtain ⟨q,d,rfl,hB,hd⟩:=h2
  have h:=diff_ p q c d (dig a) (dig b) w hA hB (Wd_dig a) (Wd_dig b) (by omega) (len32_mono hle) (by rw [val_dig,val_dig];exact hle)
  rw [val_dig,val_dig] at h
  exact h
theorem cmpB (v1 v2:Value) (a b:Nat) (w:World) (h1:LsN w v1 (dig a)) (h2:LsN w v2 (dig b)) (l1:(dig a).length≤1048576) (l2:(dig b).length≤1048576) :
    Calls Tryz.prog 135 #[v1,v2] w fun e w'=>e = .returned (.int .i64 (cmpN a b))∧Kp w w':=by
  obtain ⟨p,c,rfl,hA,hc⟩:=h1
  obtain ⟨q,d,rfl,hB,hd⟩:=h2
  have h:=ncmp_ p q c d (dig a) (dig b) w hA hB (Wd_dig a) (Wd_dig b) (by omega) (by omega) hc hd
  rw [val_dig,val_dig] at h
  exact h
theorem quoB (v1 v2:Value) (a b:Nat) (w:World) (h1:LsN w v1 (dig a)) (h2:LsN w v2 (dig b)) (l1:(dig a).length≤1048576) (l2:(dig b).length≤1048576) (h0:0 < b) :
    Calls Tryz.prog 133 #[v1,v2] w fun e w'=>∃ q r,e = .returned (.tuple #[q,r])∧LsN w' q (dig (a / b))∧LsN w' r (dig (a % b))∧Kp w w':=by
  obtain ⟨p,c,rfl,hA,hc⟩:=h1
  obtain ⟨q,d,rfl,hB,hd⟩:=h2
  have h:=quotient_ p q c d (dig a) (dig b) w hA hB (by rw [val_dig]) (by rw [val_dig]) l1 l2 hc hd (by rw [val_dig];exact h0)
  rw [val_dig,val_dig] at h
  exact h.mono fun e w' ⟨v,he,⟨p1,c1,p2,c2,e2,o1,o2,_⟩,hk⟩=>⟨_,_,by rw [he,e2],o1.lsN,o2.lsN,hk⟩
end Go.Proofs.YtfhcmabejagknaaGreatDoor
