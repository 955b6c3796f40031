import Derived.Test.YtcfnialfpblfmaaGreatDoorKBY
set_option maxHeartbeats 1000000
set_option maxRecDepth 20000
namespace Go.Proofs.YtcfnialfpblfmaaGreatDoor
open Go.RowKit
theorem noTop (n:Bool) (m X:Nat) (hm:m < 9223372036854775808) (hX:X = Fq.wD n m):bits BinOp.andNot IntKind.u64 (X:Int) 9223372036854775808 = (m:Int)∧X < 18446744073709551616:=by
  have hX9:X < 18446744073709551616:=by rw [hX];unfold Fq.wD;split <;> omega
  have h:=u64_andNot_nat X 9223372036854775808 hX9 (by decide)
  have e:X % 9223372036854775808 = m:=by rw [hX];unfold Fq.wD;split <;> omega
  rw [show 18446744073709551615 - 9223372036854775808 = 2 ^ 63 - 1 from by decide,Nat.and_two_pow_sub_one_eq_mod,show (2:Nat) ^ 63 = 9223372036854775808 from by decide,e] at h
  exact ⟨h,hX9⟩
theorem abs_ (n:Bool) (m:Nat) (hm:m < 9223372036854775808) (w:World):Calls Tryz.prog 106 #[.float .f64 (Fq.wD n m)] w fun e w'=>e = .returned (.float .f64 m)∧w' = w:=by
  obtain ⟨X,hX⟩:∃ X,X = Fq.wD n m:=⟨_,rfl⟩
  have f1:=(noTop n m X hm hX).1
  rw [← hX]
  clear hX hm
  have h1:=Fq.fb64 X
  have h2:=Fq.ff64 m
  go_enter Tryz.func106,Tryz.ntmps106
  go_wp2
  exact bodyPost_ret (v:=.float .f64 m) (by simp [results,Tryz.results106,go_sem]) rfl ⟨rfl,rfl⟩
open Ieee in
theorem fin_order (m:Nat) (hm:m < 9223372036854775808):(FloatKind.f64.format.order m 9218868437227405311 == some Ordering.lt || FloatKind.f64.format.order m 9218868437227405311 == some Ordering.eq) = decide (m < 9218868437227405312):=by
  have hf:FloatKind.f64.format = double:=rfl
  have hi:double.infRung = 9218868437227405312:=by decide +kernel
  have hw:double.signWeight = 9223372036854775808:=by decide +kernel
  have hb:double.binade≤double.infRung:=by decide +kernel
  have r1:Fq.rg double m = m:=by unfold Fq.rg;rw [hw];exact Nat.mod_eq_of_lt hm
  have r2:Fq.rg double 9218868437227405311 = 9218868437227405311:=by unfold Fq.rg;rw [hw]
  have p1:Fq.pl double m = (m:Int):=by
    unfold Fq.pl Fq.ng
    rw [r1,hw,Nat.div_eq_of_lt hm];rfl
  have p2:Fq.pl double 9218868437227405311 = 9218868437227405311:=by
    unfold Fq.pl Fq.ng
    rw [r2,hw];rfl
  rw [hf]
  by_cases c:m≤9218868437227405312
  · rw [Fq.order_num double m 9218868437227405311 hb (by rw [r1,hi];exact c) (by rw [r2,hi];decide),p1,p2]
    by_cases c1:m < 9218868437227405312
    · rw [decide_eq_true c1]
      by_cases c2:m = 9218868437227405311
      · rw [c2];rfl
      · rw [show compare (m:Int) 9218868437227405311 = Ordering.lt from by rw [Int.compare_eq_lt];omega];rfl
    · rw [decide_eq_false c1,show compare (m:Int) 9218868437227405311 = Ordering.gt from by rw [Int.compare_eq_gt];omega];rfl
  · rw [Fq.order_nan_left double m 9218868437227405311 hb (by rw [r1,hi];omega),decide_eq_false (by omega)];rfl
theorem finite_ (n:Bool) (m:Nat) (hm:m < 9223372036854775808) (w:World):Calls Tryz.prog 111 #[.float .f64 (Fq.wD n m)] w fun e w'=>e = .returned (.bool (decide (m < 9218868437227405312)))∧w' = w:=by
  have h:=abs_ n m hm w
  obtain ⟨X,hX⟩:∃ X,X = Fq.wD n m:=⟨_,rfl⟩
  rw [← hX] at h ⊢
  clear hX
  go_enter Tryz.func111,Tryz.ntmps111
  go_wp2_with fail
  refine h.mono ?_;rintro e w' ⟨rfl,hw'⟩;obtain rfl:=hw'.symm;clear h hw'
  go_wp2
  exact bodyPost_ret (v:=.bool (decide (m < 9218868437227405312))) (by rw [← fin_order m hm];simp [results,Tryz.results111,go_sem]) rfl ⟨rfl,rfl⟩
theorem div32_ (hi lo b:Nat) (h0:0 < b) (h1:hi < b) (h2:b < 4294967296) (h3:lo < 4294967296) (w:World):Calls Tryz.prog 217 #[.int .u32 (hi:Int),.int .u32 (lo:Int),.int .u32 (b:Int)] w fun e w'=>e = .returned (.tuple #[.int .u32 (((hi * 4294967296 + lo) / b:Nat):Int),.int .u32 (((hi * 4294967296 + lo) % b:Nat):Int)])∧w' = w.drew:=by
  obtain ⟨d1,d2,d3⟩:=div_word hi lo b h0 h1
  obtain ⟨hd,hhd⟩:∃ hd,hd = hi * 4294967296 + lo:=⟨_,rfl⟩
  rw [← hhd] at d2 d3 ⊢
  obtain ⟨q0,hq0⟩:∃ q0,q0 = hd / b:=⟨_,rfl⟩
  obtain ⟨r0,hr0⟩:∃ r0,r0 = hd % b:=⟨_,rfl⟩
  have fq:(hd:Int) / (b:Int) = (q0:Int):=by rw [hq0];exact (Int.natCast_ediv hd b).symm
  have fr:(hd:Int) % (b:Int) = (r0:Int):=by rw [hr0];exact (Int.natCast_emod hd b).symm
  have fq2:Int.tdiv (hd:Int) (b:Int) = (q0:Int):=by rw [hq0];rfl
  have fr2:Int.tmod (hd:Int) (b:Int) = (r0:Int):=by rw [hr0];rfl
  rw [← hr0] at d2
  rw [← hq0] at d3
  rw [← hq0,← hr0]
  have hq32:=d3 h3
  have fq3:IntKind.u64.wrap (q0:Int) = (q0:Int):=by rw [IntKind.wrap_u64];omega
  have fr3:IntKind.u64.wrap (r0:Int) = (r0:Int):=by rw [IntKind.wrap_u64];omega
  have fq4:IntKind.u32.wrap (q0:Int) = (q0:Int):=by rw [IntKind.wrap_u32];omega
  have fr4:IntKind.u32.wrap (r0:Int) = (r0:Int):=by rw [IntKind.wrap_u32];omega
  obtain ⟨S,hS⟩:∃ S,S = hi * 4294967296:=⟨_,rfl⟩
  have f1:IntKind.u64.wrap (hi:Int) = (hi:Int):=by rw [IntKind.wrap_u64];omega
  have f2:IntKind.u64.wrap (lo:Int) = (lo:Int):=by rw [IntKind.wrap_u64];omega
  have f2b:IntKind.u64.wrap (b:Int) = (b:Int):=by rw [IntKind.wrap_u64];omega
  have f3:IntKind.u64.wrap ((hi:Int) * 4294967296) = (S:Int):=by rw [IntKind.wrap_u64];omega
  have f4:bits BinOp.or IntKind.u64 (S:Int) (lo:Int) = (hd:Int):=by
    rw [hS,bits_or_u64_nat (hi * 4294967296) lo (by omega) (by omega)]
    have e2:hi * 4294967296 ||| lo = hd:=by
      rw [Nat.or_comm,hhd]
      have:=or_low lo hi 32 (by omega)
      rw [show (2:Nat) ^ 32 = 4294967296 from rfl] at this
      omega
    rw [e2]
  have t0:¬ b = 0:=by omega
  have t1:¬ ((b:Int)≤(hi:Int)):=by omega
  clear d1 d2 d3 hhd hq0 hr0 hq32 hS h0 h1 h2 h3
  go_enter Tryz.func217,Tryz.ntmps217
  go_wp2
  go_region
  clear fq fr fq2 fr2 fq3 fr3 fq4 fr4 f1 f2 f2b f3 f4 t0 t1
  go_wp2
  exact bodyPost_ret (v:=.tuple #[.int .u32 (q0:Int),.int .u32 (r0:Int)]) (by simp [results,Tryz.results217,go_sem]) rfl ⟨rfl,rfl⟩
theorem byWord_ (p:Option Addr) (c b:Nat) (xs:List Int) (w:World) (hx:Arr w p xs) (hwx:Wd xs) (lx:xs.length≤1048576) (hb0:0 < b) (hb1:b < 4294967296) :
    Calls Tryz.prog 211 #[.slice p xs.length c,.int .u32 (b:Int)] w fun e w'=>∃ v,e = .returned v∧Two w' w.heap.size (dig (val xs / b)) (dig (val xs % b)) v∧Kp w w':=by
  obtain ⟨N,hN⟩:∃ N,N = xs.length:=⟨_,rfl⟩
  rw [← hN]
  have lN:N≤1048576:=by omega
  have hmk:=mk32 N (by omega)
  obtain ⟨gq,hgq⟩:∃ gq,gq = w.heap.size:=⟨_,rfl⟩
  have hrq:Rw (w.alloc (.cells (madeCells #[.int .u32 0] N) 81)) w.heap.size N (List.replicate N 0):=World.rowIs.congr (World.rowIs_made w (.int .u32 0) N 81) (fun j _=>by rw [rep0_getD])
  rw [← hgq] at hrq
  have HS:Hid (Rw (w.alloc (.cells (madeCells #[.int .u32 0] N) 81)) gq N (List.replicate N 0)∧Kp w (w.alloc (.cells (madeCells #[.int .u32 0] N) 81))∧w.heap.size≤gq):=⟨hrq,(Kp.refl w).alloc _,by omega⟩
  have HX:Hid (Arr w p xs∧Wd xs∧N = xs.length∧0 < b∧b < 4294967296):=⟨hx,hwx,hN,hb0,hb1⟩
  clear hx hwx lx hb0 hb1 hN hrq
  go_enter Tryz.func211,Tryz.ntmps211
  go_wp2
  rw [← hgq]
  clear hgq
  go_loopw [6,14] (fun rr ii wr=>∃ (k rest:Nat) (qs:List Int),rr = .int .u32 (rest:Int)∧ii = .int .i64 k∧k≤N∧rest < b∧Rw wr gq N qs∧qs.length = N∧Wd qs∧(∀ j,j < N - k→qs.getD j 0 = 0)∧val qs * b + rest * 4294967296 ^ (N - k) + val (xs.take (N - k)) = val xs∧Kp w wr) (fun _ i _=>N - (intOf i).toNat)
  case atStart =>
    obtain ⟨hrq,hk,hg⟩:=HS.out
    obtain ⟨hx,hwx,hN,hb0,hb1⟩:=HX.out
    refine ⟨0,0,List.replicate N 0,rfl,rfl,Nat.zero_le _,hb0,hrq,by simp,fun j=>by rw [rep0_getD];omega,fun j _=>rep0_getD N j, ?_,hk⟩
    rw [val_zeros _ (fun j=>rep0_getD N j),Nat.zero_mul,Nat.zero_mul,Nat.zero_add,Nat.sub_zero,List.take_of_length_le (by omega)]
  case round =>
    obtain ⟨k,rest,qs,rfl,rfl,hk,hrb,hrq,hql,hwq,hq0,hval,hkp⟩:=hrel
    obtain ⟨_,_,hgw⟩:=HS.out
    obtain ⟨hx,hwx,hN,hb0,hb1⟩:=HX.out
    by_cases ck:k < N
    · obtain ⟨r,hr⟩:∃ r,r = N - 1 - k:=⟨_,rfl⟩
      have hr1:N - k = r + 1:=by omega
      rw [hr1] at hval
      obtain ⟨b',off',rfl,hc'⟩:=hx.at (k:=r) (by omega)
      have e1:=kkeep hkp (hc' r (by omega))
      have hbg:b'≠gq:=by have:=cell_lt (hc' r (by omega));omega
      have wx:=hwx r
      obtain ⟨x,hx9⟩:∃ x:Nat,(x:Int) = xs.getD r 0:=⟨_,Int.toNat_of_nonneg wx.1⟩
      rw [← hx9] at e1
      obtain ⟨d1,d2,d3⟩:=div_word rest x b hb0 hrb
      have hdv:=div32_ rest x b hb0 hrb hb1 (by omega)
      obtain ⟨D,hD⟩:∃ D,D = (rest * 4294967296 + x) / b:=⟨_,rfl⟩
      obtain ⟨R,hR⟩:∃ R,R = (rest * 4294967296 + x) % b:=⟨_,rfl⟩
      rw [← hD,← hR] at hdv d1
      rw [← hR] at d2
      rw [← hD] at d3
      have hD32:=d3 (by omega)
      have hst:=bw_step qs xs b r D rest R x _ (by omega) (hq0 r (by omega)) (by rw [← hx9];rfl) d1 hval
      have hrN:r < N:=by omega
      have e3:=World.rowIs.cell hrq (i:=r) hrN
      have e4:=World.rowIs.frozen hrq r
      have hRq:Rw (wr.drew.setCell ⟨gq,r,none⟩ (.int .u32 (D:Int))) gq N (qs.set r (D:Int)):=by
        have h:Rw wr.drew gq N qs:=hrq
        exact h.set r (D:Int) (by omega)
      have hKp:Kp w (wr.drew.setCell ⟨gq,r,none⟩ (.int .u32 (D:Int))):=(hkp.drew).setCell hgw _
      have hw2:Wd (qs.set r (D:Int)):=hwq.set r D (by omega)
      have hl2:(qs.set r (D:Int)).length = N:=by rw [List.length_set];exact hql
      have hr2:N - (k + 1) = r:=by omega
      have hz2:∀ j,j < N - (k + 1)→(qs.set r (D:Int)).getD j 0 = 0:=fun j hj=>by
        have e2:(qs.set r (D:Int)).getD j 0 = qs.getD j 0:=by simp [List.getD,show ¬ r = j from by omega]
        rw [e2,hq0 j (by omega)]
      have HF:Hid (R < b∧Rw (wr.drew.setCell ⟨gq,r,none⟩ (.int .u32 (D:Int))) gq N (qs.set r (D:Int))∧(qs.set r (D:Int)).length = N∧Wd (qs.set r (D:Int))∧(∀ j,j < N - (k + 1)→(qs.set r (D:Int)).getD j 0 = 0)∧val (qs.set r (D:Int)) * b + R * 4294967296 ^ (N - (k + 1)) + val (xs.take (N - (k + 1))) = val xs∧Kp w (wr.drew.setCell ⟨gq,r,none⟩ (.int .u32 (D:Int)))):=⟨d2,hRq,hl2,hw2,hz2,by rw [hr2];exact hst,hKp⟩
      have fr:IntKind.i64.wrap ((N:Int) - 1 - (k:Int)) = (r:Int):=by rw [IntKind.wrap_i64];omega
      have fr1:(N:Int) - 1 - (k:Int) = (r:Int):=by omega
      have i0:(k:Int) < (N:Int):=by omega
      have i1:(r:Int) < (N:Int):=by omega
      have hkN:k + 1≤N:=by omega
      clear HX HS hx hwx hN hb0 hb1 hk hrb hrq hql hwq hq0 hval hkp hgw hr hr1 hc' wx hx9 d1 d2 d3 hD hR hD32 hst hRq hKp hw2 hl2 hr2 hz2 hmk
      go_wp2_with (first | (go_at_call 217;refine (hdv _).mono ?_;rintro e w' ⟨rfl,hw'⟩;obtain rfl:=hw'.symm))
      obtain ⟨a1,a2,a3,a4,a5,a6,a7⟩:=HF.out
      exact ⟨⟨k + 1,R,qs.set r (D:Int),rfl,by go_num,hkN,a1,a2,a3,a4,a5,a6,a7⟩,by simp [intOf];omega⟩
    · have hkN:k = N:=by omega
      subst hkN
      rw [Nat.sub_self,Nat.pow_zero,Nat.mul_one,List.take_zero,show val ([]:List Int) = 0 from rfl,Nat.add_zero] at hval
      obtain ⟨he1,he2⟩:=bw_end _ _ _ _ hval hrb
      have htr:=trim_ (some ⟨gq,0,none⟩) k qs wr (hrq.all hql) (by omega) (by omega)
      have hsm:=nsmall_ rest (by omega)
      rw [hql] at htr
      have hOq:∀ w',Kp wr w'→Own w' w.heap.size (.slice (some ⟨gq,0,none⟩) (tl qs) k) (dig (val xs / b)):=fun w' h=>by
        have h1:=Own.of_row (base:=w.heap.size) (k:=tl qs) (hrq.grown h) hgw (by have:=tl_le qs;omega) hql (by unfold maxLen;omega)
        have h2:qs.take (tl qs) = dig (val xs / b):=by rw [← he1,← nz_dig qs hwq];rfl
        rw [h2] at h1
        exact h1
      have htl:tl qs = (dig (val xs / b)).length:=by rw [← he1,tl_len qs hwq];rfl
      have hgql:gq < wr.heap.size:=World.rowIs.lt hrq
      obtain ⟨T,hT⟩:∃ T,T = tl qs:=⟨_,rfl⟩
      rw [← hT] at htr hOq htl
      have i2:¬ ((k:Int) < (k:Int)):=by omega
      have f1:IntKind.u64.wrap (rest:Int) = (rest:Int):=by rw [IntKind.wrap_u64];omega
      have HF:Hid ((∀ w',Kp wr w'→Own w' w.heap.size (.slice (some ⟨gq,0,none⟩) T k) (dig (val xs / b)))∧T = (dig (val xs / b)).length∧gq < wr.heap.size∧Kp w wr∧rest = val xs % b):=⟨hOq,htl,hgql,hkp,he2⟩
      clear HX HS hx hwx hN hb0 hb1 hk hrb hrq hql hwq hq0 hval hkp hgw ck he1 he2 hOq htl hgql hT hmk
      go_wp2_with (first | (go_at_call 169;refine htr.mono ?_;rintro e w' ⟨rfl,hw'⟩;obtain rfl:=hw'.symm))
      refine (hsm _).mono ?_
      rintro e w' ⟨vr,rfl,hOr,hkr⟩
      obtain ⟨hOq,htl,hgql,hkp,he2⟩:=HF.out
      rw [he2] at hOr
      have hKf:Kp w w':=hkp.trans hkr
      have hTwo:Two w' w.heap.size (dig (val xs / b)) (dig (val xs % b)) (.tuple #[.slice (some ⟨gq,0,none⟩) T k,vr]):=by
        obtain ⟨pr,cr,rfl,hor⟩:=hOr.len
        refine ⟨some ⟨gq,0,none⟩,k,pr,cr,by rw [htl],by rw [← htl];exact hOq w' hkr,hOr.mono hkp.size,fun g e e2=>?_⟩
        cases e
        rw [e2] at hOr
        have h1:=hOr.above.1
        omega
      have HZ:Hid (Two w' w.heap.size (dig (val xs / b)) (dig (val xs % b)) (.tuple #[.slice (some ⟨gq,0,none⟩) T k,vr])∧Kp w w'):=⟨hTwo,hKf⟩
      clear HF hOq htl hgql hkp hKf hTwo hOr hkr htr hsm f1 he2
      go_wp2
      exact bodyPost_ret (v:=.tuple #[.slice (some ⟨gq,0,none⟩) T k,vr]) (by simp [results,Tryz.results211,go_sem]) rfl ⟨_,rfl,HZ.out.1,HZ.out.2⟩
end Go.Proofs.YtcfnialfpblfmaaGreatDoor
