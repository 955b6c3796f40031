import Derived.Test.YtfhcmabejagknaaGreatDoorKNSm
set_option maxHeartbeats 1000000
set_option maxRecDepth 20000
namespace Go.Proofs.YtfhcmabejagknaaGreatDoor
open Go.RowKit
theorem div32_ (hi lo b:Nat) (h0:0 < b) (h1:hi < b) (h2:b < 4294967296) (h3:lo < 4294967296) (w:World):Calls Tryz.prog 153 #[.int .u32 (hi:Int),.int .u32 (lo:Int),.int .u32 (b:Int)] w fun e w'=>e = .returned (.tuple #[.int .u32 (((hi * 4294967296 + lo) / b:Nat):Int),.int .u32 (((hi * 4294967296 + lo) % b:Nat):Int)])∧w' = w.drew:=by
  obtain ⟨d1,d2,d3⟩:=div_word hi lo b h0 h1
  obtain ⟨hd,hhd⟩:∃ hd,hd = hi * 4294967296 + lo:=⟨_,rfl⟩
  rw [← hhd] at d2 d3 ⊢
  obtain ⟨q0,hq0⟩:∃ q0,q0 = hd / b:=⟨_,rfl⟩
  obtain ⟨r0,hr0⟩:∃ r0,r0 = hd % b:=⟨_,rfl⟩
  have fq:(hd:Int) / (b:Int) = (q0:Int):=by rw [hq0];exact (Int.natCast_ediv hd b).symm
  have fr:(hd:Int) % (b:Int) = (r0:Int):=by rw [hr0];exact (Int.natCast_emod hd b).symm
  have fq2:Int.tdiv (hd:Int) (b:Int) = (q0:Int):=by rw [hq0];rfl
  have fr2:Int.tmod (hd:Int) (b:Int) = (r0:Int):=by rw [hr0];rfl
  rw [← hr0] at d2
  rw [← hq0] at d3
  rw [← hq0,← hr0]
  have hq32:=d3 h3
  have fq3:IntKind.u64.wrap (q0:Int) = (q0:Int):=by rw [IntKind.wrap_u64];omega
  have fr3:IntKind.u64.wrap (r0:Int) = (r0:Int):=by rw [IntKind.wrap_u64];omega
  have fq4:IntKind.u32.wrap (q0:Int) = (q0:Int):=by rw [IntKind.wrap_u32];omega
  have fr4:IntKind.u32.wrap (r0:Int) = (r0:Int):=by rw [IntKind.wrap_u32];omega
  obtain ⟨S,hS⟩:∃ S,S = hi * 4294967296:=⟨_,rfl⟩
  have f1:IntKind.u64.wrap (hi:Int) = (hi:Int):=by rw [IntKind.wrap_u64];omega
  have f2:IntKind.u64.wrap (lo:Int) = (lo:Int):=by rw [IntKind.wrap_u64];omega
  have f2b:IntKind.u64.wrap (b:Int) = (b:Int):=by rw [IntKind.wrap_u64];omega
  have f3:IntKind.u64.wrap ((hi:Int) * 4294967296) = (S:Int):=by rw [IntKind.wrap_u64];omega
  have f4:bits BinOp.or IntKind.u64 (S:Int) (lo:Int) = (hd:Int):=by
    rw [hS,bits_or_u64_nat (hi * 4294967296) lo (by omega) (by omega)]
    have e2:hi * 4294967296 ||| lo = hd:=by
      rw [Nat.or_comm,hhd]
      have:=or_low lo hi 32 (by omega)
      rw [show (2:Nat) ^ 32 = 4294967296 from rfl] at this
      omega
    rw [e2]
  have t0:¬ b = 0:=by omega
  have t1:¬ ((b:Int)≤(hi:Int)):=by omega
  clear d1 d2 d3 hhd hq0 hr0 hq32 hS h0 h1 h2 h3
  go_enter Tryz.func153,Tryz.ntmps153
  go_wp2
  go_region
  clear fq fr fq2 fr2 fq3 fr3 fq4 fr4 f1 f2 f2b f3 f4 t0 t1
  go_wp2
  exact bodyPost_ret (v:=.tuple #[.int .u32 (q0:Int),.int .u32 (r0:Int)]) (by simp [results,Tryz.results153,go_sem]) rfl ⟨rfl,rfl⟩
theorem byWord_ (p:Option Addr) (c b:Nat) (xs:List Int) (w:World) (hx:Arr w p xs) (hwx:Wd xs) (lx:xs.length≤1048576) (hb0:0 < b) (hb1:b < 4294967296) :
    Calls Tryz.prog 147 #[.slice p xs.length c,.int .u32 (b:Int)] w fun e w'=>∃ v,e = .returned v∧Two w' w.heap.size (dig (val xs / b)) (dig (val xs % b)) v∧Kp w w':=by
  obtain ⟨N,hN⟩:∃ N,N = xs.length:=⟨_,rfl⟩
  rw [← hN]
  have lN:N≤1048576:=by omega
  have hmk:=mk32 N (by omega)
  obtain ⟨gq,hgq⟩:∃ gq,gq = w.heap.size:=⟨_,rfl⟩
  have hrq:Rw (w.alloc (.cells (madeCells #[.int .u32 0] N) 86)) w.heap.size N (List.replicate N 0):=World.rowIs.congr (World.rowIs_made w (.int .u32 0) N 86) (fun j _=>by rw [rep0_getD])
  rw [← hgq] at hrq
  have HS:Hid (Rw (w.alloc (.cells (madeCells #[.int .u32 0] N) 86)) gq N (List.replicate N 0)∧Kp w (w.alloc (.cells (madeCells #[.int .u32 0] N) 86))∧w.heap.size≤gq):=⟨hrq,(Kp.refl w).alloc _,by omega⟩
  have HX:Hid (Arr w p xs∧Wd xs∧N = xs.length∧0 < b∧b < 4294967296):=⟨hx,hwx,hN,hb0,hb1⟩
  clear hx hwx lx hb0 hb1 hN hrq
  go_enter Tryz.func147,Tryz.ntmps147
  go_wp2
  rw [← hgq]
  clear hgq
  go_loopw [6,14] (fun rr ii wr=>∃ (k rest:Nat) (qs:List Int),rr = .int .u32 (rest:Int)∧ii = .int .i64 k∧k≤N∧rest < b∧Rw wr gq N qs∧qs.length = N∧Wd qs∧(∀ j,j < N - k→qs.getD j 0 = 0)∧val qs * b + rest * 4294967296 ^ (N - k) + val (xs.take (N - k)) = val xs∧Kp w wr) (fun _ i _=>N - (intOf i).toNat)
  case atStart =>
    obtain ⟨hrq,hk,hg⟩:=HS.out
    obtain ⟨hx,hwx,hN,hb0,hb1⟩:=HX.out
    refine ⟨0,0,List.replicate N 0,rfl,rfl,Nat.zero_le _,hb0,hrq,by simp,fun j=>by rw [rep0_getD];omega,fun j _=>rep0_getD N j, ?_,hk⟩
    rw [val_zeros _ (fun j=>rep0_getD N j),Nat.zero_mul,Nat.zero_mul,Nat.zero_add,Nat.sub_zero,List.take_of_length_le (by omega)]
  case round =>
    obtain ⟨k,rest,qs,rfl,rfl,hk,hrb,hrq,hql,hwq,hq0,hval,hkp⟩:=hrel
    obtain ⟨_,_,hgw⟩:=HS.out
    obtain ⟨hx,hwx,hN,hb0,hb1⟩:=HX.out
    by_cases ck:k < N
    · obtain ⟨r,hr⟩:∃ r,r = N - 1 - k:=⟨_,rfl⟩
      have hr1:N - k = r + 1:=by omega
      rw [hr1] at hval
      obtain ⟨b',off',rfl,hc'⟩:=hx.at (k:=r) (by omega)
      have e1:=kkeep hkp (hc' r (by omega))
      have hbg:b'≠gq:=by have:=cell_lt (hc' r (by omega));omega
      have wx:=hwx r
      obtain ⟨x,hx9⟩:∃ x:Nat,(x:Int) = xs.getD r 0:=⟨_,Int.toNat_of_nonneg wx.1⟩
      rw [← hx9] at e1
      obtain ⟨d1,d2,d3⟩:=div_word rest x b hb0 hrb
      have hdv:=div32_ rest x b hb0 hrb hb1 (by omega)
      obtain ⟨D,hD⟩:∃ D,D = (rest * 4294967296 + x) / b:=⟨_,rfl⟩
      obtain ⟨R,hR⟩:∃ R,R = (rest * 4294967296 + x) % b:=⟨_,rfl⟩
      rw [← hD,← hR] at hdv d1
      rw [← hR] at d2
      rw [← hD] at d3
      have hD32:=d3 (by omega)
      have hst:=bw_step qs xs b r D rest R x _ (by omega) (hq0 r (by omega)) (by rw [← hx9];rfl) d1 hval
      have hrN:r < N:=by omega
      have e3:=World.rowIs.cell hrq (i:=r) hrN
      have e4:=World.rowIs.frozen hrq r
      have hRq:Rw (wr.drew.setCell ⟨gq,r,none⟩ (.int .u32 (D:Int))) gq N (qs.set r (D:Int)):=by
        have h:Rw wr.drew gq N qs:=hrq
        exact h.set r (D:Int) (by omega)
      have hKp:Kp w (wr.drew.setCell ⟨gq,r,none⟩ (.int .u32 (D:Int))):=(hkp.drew).setCell hgw _
      have hw2:Wd (qs.set r (D:Int)):=hwq.set r D (by omega)
      have hl2:(qs.set r (D:Int)).length = N:=by rw [List.length_set];exact hql
      have hr2:N - (k + 1) = r:=by omega
      have hz2:∀ j,j < N - (k + 1)→(qs.set r (D:Int)).getD j 0 = 0:=fun j hj=>by
        have e2:(qs.set r (D:Int)).getD j 0 = qs.getD j 0:=by simp [List.getD,show ¬ r = j from by omega]
        rw [e2,hq0 j (by omega)]
      have HF:Hid (R < b∧Rw (wr.drew.setCell ⟨gq,r,none⟩ (.int .u32 (D:Int))) gq N (qs.set r (D:Int))∧(qs.set r (D:Int)).length = N∧Wd (qs.set r (D:Int))∧(∀ j,j < N - (k + 1)→(qs.set r (D:Int)).getD j 0 = 0)∧val (qs.set r (D:Int)) * b + R * 4294967296 ^ (N - (k + 1)) + val (xs.take (N - (k + 1))) = val xs∧Kp w (wr.drew.setCell ⟨gq,r,none⟩ (.int .u32 (D:Int)))):=⟨d2,hRq,hl2,hw2,hz2,by rw [hr2];exact hst,hKp⟩
      have fr:IntKind.i64.wrap ((N:Int) - 1 - (k:Int)) = (r:Int):=by rw [IntKind.wrap_i64];omega
      have fr1:(N:Int) - 1 - (k:Int) = (r:Int):=by omega
      have i0:(k:Int) < (N:Int):=by omega
      have i1:(r:Int) < (N:Int):=by omega
      have hkN:k + 1≤N:=by omega
      clear HX HS hx hwx hN hb0 hb1 hk hrb hrq hql hwq hq0 hval hkp hgw hr hr1 hc' wx hx9 d1 d2 d3 hD hR hD32 hst hRq hKp hw2 hl2 hr2 hz2 hmk
      go_wp2_with (first | (go_at_call 153;refine (hdv _).mono ?_;rintro e w' ⟨rfl,hw'⟩;obtain rfl:=hw'.symm))
      obtain ⟨a1,a2,a3,a4,a5,a6,a7⟩:=HF.out
      exact ⟨⟨k + 1,R,qs.set r (D:Int),rfl,by go_num,hkN,a1,a2,a3,a4,a5,a6,a7⟩,by simp [intOf];omega⟩
    · have hkN:k = N:=by omega
      subst hkN
      rw [Nat.sub_self,Nat.pow_zero,Nat.mul_one,List.take_zero,show val ([]:List Int) = 0 from rfl,Nat.add_zero] at hval
      obtain ⟨he1,he2⟩:=bw_end _ _ _ _ hval hrb
      have htr:=trim_ (some ⟨gq,0,none⟩) k qs wr (hrq.all hql) (by omega) (by omega)
      have hsm:=nsmall_ rest (by omega)
      rw [hql] at htr
      have hOq:∀ w',Kp wr w'→Own w' w.heap.size (.slice (some ⟨gq,0,none⟩) (tl qs) k) (dig (val xs / b)):=fun w' h=>by
        have h1:=Own.of_row (base:=w.heap.size) (k:=tl qs) (hrq.grown h) hgw (by have:=tl_le qs;omega) hql (by unfold maxLen;omega)
        have h2:qs.take (tl qs) = dig (val xs / b):=by rw [← he1,← nz_dig qs hwq];rfl
        rw [h2] at h1
        exact h1
      have htl:tl qs = (dig (val xs / b)).length:=by rw [← he1,tl_len qs hwq];rfl
      have hgql:gq < wr.heap.size:=World.rowIs.lt hrq
      obtain ⟨T,hT⟩:∃ T,T = tl qs:=⟨_,rfl⟩
      rw [← hT] at htr hOq htl
      have i2:¬ ((k:Int) < (k:Int)):=by omega
      have f1:IntKind.u64.wrap (rest:Int) = (rest:Int):=by rw [IntKind.wrap_u64];omega
      have HF:Hid ((∀ w',Kp wr w'→Own w' w.heap.size (.slice (some ⟨gq,0,none⟩) T k) (dig (val xs / b)))∧T = (dig (val xs / b)).length∧gq < wr.heap.size∧Kp w wr∧rest = val xs % b):=⟨hOq,htl,hgql,hkp,he2⟩
      clear HX HS hx hwx hN hb0 hb1 hk hrb hrq hql hwq hq0 hval hkp hgw ck he1 he2 hOq htl hgql hT hmk
      go_wp2_with (first | (go_at_call 90;refine htr.mono ?_;rintro e w' ⟨rfl,hw'⟩;obtain rfl:=hw'.symm))
      refine (hsm _).mono ?_
      rintro e w' ⟨vr,rfl,hOr,hkr⟩
      obtain ⟨hOq,htl,hgql,hkp,he2⟩:=HF.out
      rw [he2] at hOr
      have hKf:Kp w w':=hkp.trans hkr
      have hTwo:Two w' w.heap.size (dig (val xs / b)) (dig (val xs % b)) (.tuple #[.slice (some ⟨gq,0,none⟩) T k,vr]):=by
        obtain ⟨pr,cr,rfl,hor⟩:=hOr.len
        refine ⟨some ⟨gq,0,none⟩,k,pr,cr,by rw [htl],by rw [← htl];exact hOq w' hkr,hOr.mono hkp.size,fun g e e2=>?_⟩
        cases e
        rw [e2] at hOr
        have h1:=hOr.above.1
        omega
      have HZ:Hid (Two w' w.heap.size (dig (val xs / b)) (dig (val xs % b)) (.tuple #[.slice (some ⟨gq,0,none⟩) T k,vr])∧Kp w w'):=⟨hTwo,hKf⟩
      clear HF hOq htl hgql hkp hKf hTwo hOr hkr htr hsm f1 he2
      go_wp2
      exact bodyPost_ret (v:=.tuple #[.slice (some ⟨gq,0,none⟩) T k,vr]) (by simp [results,Tryz.results147,go_sem]) rfl ⟨_,rfl,HZ.out.1,HZ.out.2⟩
theorem isnan_i (x:Int) (w:World):Calls Tryz.prog 156 #[.int .i64 x] w fun e w'=>e = .returned (.bool false)∧w' = w:=by
  go_enter Tryz.func156,Tryz.ntmps156
  go_wp2
  exact bodyPost_ret (v:=.bool false) (by simp [results,Tryz.results156,go_sem] <;> simp only [*]) rfl ⟨rfl,rfl⟩
theorem compare_i (x y:Int) (w:World):Calls Tryz.prog 149 #[.int .i64 x,.int .i64 y] w fun e w'=>e = .returned (.int .i64 (cmpz x y))∧w' = w:=by
  rcases (by omega:x < y∨y < x∨x = y) with c | c | c
  · have ec:cmpz x y = -1:=by unfold cmpz;simp [c]
    rw [ec];clear ec
    go_enter Tryz.func149,Tryz.ntmps149
    go_wp2_with (first | (go_at_call 156;refine (isnan_i _ _).mono ?_;rintro e w' ⟨rfl,rfl⟩))
    exact bodyPost_ret (v:=.int .i64 (-1)) (by simp [results,Tryz.results149,go_sem] <;> simp only [*]) rfl ⟨rfl,rfl⟩
  · have d:¬ (x < y):=by omega
    have ec:cmpz x y = 1:=by unfold cmpz;simp [c,d]
    rw [ec];clear ec
    go_enter Tryz.func149,Tryz.ntmps149
    go_wp2_with (first | (go_at_call 156;refine (isnan_i _ _).mono ?_;rintro e w' ⟨rfl,rfl⟩))
    exact bodyPost_ret (v:=.int .i64 1) (by simp [results,Tryz.results149,go_sem] <;> simp only [*]) rfl ⟨rfl,rfl⟩
  · subst c
    have d:¬ (x < x):=by omega
    have ec:cmpz x x = 0:=by unfold cmpz;simp
    rw [ec];clear ec
    go_enter Tryz.func149,Tryz.ntmps149
    go_wp2_with (first | (go_at_call 156;refine (isnan_i _ _).mono ?_;rintro e w' ⟨rfl,rfl⟩))
    exact bodyPost_ret (v:=.int .i64 0) (by simp [results,Tryz.results149,go_sem] <;> simp only [*]) rfl ⟨rfl,rfl⟩
theorem isnan_u (x:Int) (w:World):Calls Tryz.prog 157 #[.int .u32 x] w fun e w'=>e = .returned (.bool false)∧w' = w:=by
  go_enter Tryz.func157,Tryz.ntmps157
  go_wp2
  exact bodyPost_ret (v:=.bool false) (by simp [results,Tryz.results157,go_sem] <;> simp only [*]) rfl ⟨rfl,rfl⟩
theorem compare_u (x y:Int) (w:World):Calls Tryz.prog 150 #[.int .u32 x,.int .u32 y] w fun e w'=>e = .returned (.int .i64 (cmpz x y))∧w' = w:=by
  rcases (by omega:x < y∨y < x∨x = y) with c | c | c
  · have ec:cmpz x y = -1:=by unfold cmpz;simp [c]
    rw [ec];clear ec
    go_enter Tryz.func150,Tryz.ntmps150
    go_wp2_with (first | (go_at_call 157;refine (isnan_u _ _).mono ?_;rintro e w' ⟨rfl,rfl⟩))
    exact bodyPost_ret (v:=.int .i64 (-1)) (by simp [results,Tryz.results150,go_sem] <;> simp only [*]) rfl ⟨rfl,rfl⟩
  · have d:¬ (x < y):=by omega
    have ec:cmpz x y = 1:=by unfold cmpz;simp [c,d]
    rw [ec];clear ec
    go_enter Tryz.func150,Tryz.ntmps150
    go_wp2_with (first | (go_at_call 157;refine (isnan_u _ _).mono ?_;rintro e w' ⟨rfl,rfl⟩))
    exact bodyPost_ret (v:=.int .i64 1) (by simp [results,Tryz.results150,go_sem] <;> simp only [*]) rfl ⟨rfl,rfl⟩
  · subst c
    have d:¬ (x < x):=by omega
    have ec:cmpz x x = 0:=by unfold cmpz;simp
    rw [ec];clear ec
    go_enter Tryz.func150,Tryz.ntmps150
    go_wp2_with (first | (go_at_call 157;refine (isnan_u _ _).mono ?_;rintro e w' ⟨rfl,rfl⟩))
    exact bodyPost_ret (v:=.int .i64 0) (by simp [results,Tryz.results150,go_sem] <;> simp only [*]) rfl ⟨rfl,rfl⟩
theorem ncmp_ (p q:Option Addr) (c d:Nat) (xs ys:List Int) (w:World) (hx:Arr w p xs) (hy:Arr w q ys) (hwx:Wd xs) (hwy:Wd ys) (lx:xs.length≤1099511627776) (ly:ys.length≤1099511627776) (hc:xs.length≤c) (hd:ys.length≤d) :
    Calls Tryz.prog 135 #[.slice p xs.length c,.slice q ys.length d] w fun e w'=>e = .returned (.int .i64 (cmpN (val xs) (val ys)))∧Kp w w':=by
  have h1:=trim_ p c xs w hx lx hc
  have h2:=trim_ q d ys w hy ly hd
  have lS:=tl_le xs
  have lT:=tl_le ys
  have hg:Kp w w:=Kp.refl w
  have dne:tl xs≠tl ys→cmpz (tl xs:Int) (tl ys:Int) = cmpN (val xs) (val ys):=fun h=>by
    rcases (by omega:tl xs < tl ys∨tl ys < tl xs) with e | e
    · rw [cmpN_lt (tl_lt_val xs ys hwx hwy e)];unfold cmpz;rw [if_pos (by omega)]
    · rw [cmpN_gt (tl_lt_val ys xs hwy hwx e)];unfold cmpz;rw [if_neg (by omega),if_pos (by omega)]
  have deq:tl xs = tl ys→(∀ j,j < tl xs→xs.getD j 0 = ys.getD j 0)→cmpN (val xs) (val ys) = 0:=fun e h=>by
    apply cmpN_eq
    rw [← val_tl xs,← val_tl ys,← e]
    exact cmp_all xs ys _ h
  have tne:∀ k,tl xs = tl ys→k < tl xs→xs.getD k 0≠ys.getD k 0→(∀ j,k < j→j < tl xs→xs.getD j 0 = ys.getD j 0)→cmpz (xs.getD k 0) (ys.getD k 0) = cmpN (val xs) (val ys):=fun k e h1 h2 h3=>by
    rcases (by omega:xs.getD k 0 < ys.getD k 0∨ys.getD k 0 < xs.getD k 0) with f | f
    · rw [cmpN_lt (by rw [← val_tl xs,← val_tl ys,← e];exact cmp_top xs ys hwx k (hwx k).1 f _ h1 h3)];unfold cmpz;rw [if_pos f]
    · rw [cmpN_gt (by rw [← val_tl xs,← val_tl ys,← e];exact cmp_top ys xs hwy k (hwy k).1 f _ h1 (fun j a b=>(h3 j a b).symm))];unfold cmpz;rw [if_neg (by omega),if_pos f]
  obtain ⟨R,hR⟩:∃ R,R = cmpN (val xs) (val ys):=⟨_,rfl⟩
  obtain ⟨N,hN⟩:∃ N,N = xs.length:=⟨_,rfl⟩
  obtain ⟨M,hM⟩:∃ M,M = ys.length:=⟨_,rfl⟩
  obtain ⟨S,hS⟩:∃ S,S = tl xs:=⟨_,rfl⟩
  obtain ⟨T,hT⟩:∃ T,T = tl ys:=⟨_,rfl⟩
  rw [← hS,← hN] at h1 lS
  rw [← hT,← hM] at h2 lT
  rw [← hS,← hT,← hR] at dne deq tne
  rw [← hN,← hM,← hR]
  have HX:Hid (Arr w p xs):=hx
  have HY:Hid (Arr w q ys):=hy
  have HN:Hid (N = xs.length∧M = ys.length):=⟨hN,hM⟩
  have lS2:S≤1099511627776:=by omega
  clear hx hy hwx hwy lx ly hN hM hS hT hR hc hd
  by_cases cST:S = T
  · subst cST
    have t1:((S:Int) != (S:Int)) = false:=by simp
    have HD:Hid ((∀ j,j < S→xs.getD j 0 = ys.getD j 0)→R = 0):=deq rfl
    have HL:Hid (∀ k,k < S→xs.getD k 0≠ys.getD k 0→(∀ j,k < j→j < S→xs.getD j 0 = ys.getD j 0)→cmpz (xs.getD k 0) (ys.getD k 0) = R):=fun k=>tne k rfl
    clear dne deq tne
    go_enter Tryz.func135,Tryz.ntmps135
    go_wp2_with fail
    refine h1.mono ?_;rintro e w' ⟨rfl,hw'⟩;obtain rfl:=hw'.symm
    go_wp2_with fail
    refine h2.mono ?_;rintro e w' ⟨rfl,hw'⟩;obtain rfl:=hw'.symm
    clear h1 h2
    go_wp2
    clear t1
    go_loopw [23] (fun i wr=>∃ (k:Nat),k≤S∧i = .int .i64 k∧Kp w wr∧∀ j,S≤j + k→j < S→xs.getD j 0 = ys.getD j 0) (fun i _=>S - (intOf i).toNat)
    case atStart=>exact ⟨0,Nat.zero_le _,rfl,hg,fun j _ _=>by omega⟩
    case round =>
      clear hg
      obtain ⟨k,hk,rfl,hg,hs⟩:=hrel
      by_cases ck:k < S
      · obtain ⟨hN,hM⟩:=HN.out
        obtain ⟨m,hm⟩:∃ m:Nat,m + k + 1 = S:=⟨S - 1 - k,by omega⟩
        obtain ⟨b,off,rfl,hc⟩:=HX.out.at (k:=m) (by omega)
        obtain ⟨b',off',rfl,hc'⟩:=HY.out.at (k:=m) (by omega)
        have e1:=kkeep hg (hc m (by omega))
        have e2:=kkeep hg (hc' m (by omega))
        have hm2:m = S - 1 - k:=by omega
        rw [hm2] at e1 e2
        have i0:(0:Int)≤(S:Int) - 1 - (k:Int):=by omega
        have i1:(S:Int) - 1 - (k:Int) < (S:Int):=by omega
        have i2:(k:Int) < (S:Int):=by omega
        have i3:wrap64 ((S:Int) - 1) = (S:Int) - 1:=by unfold wrap64;omega
        have i5:(k:Int)≤(S:Int) - 1:=by omega
        have i4:wrap64 ((S:Int) - 1 - (k:Int)) = (S:Int) - 1 - (k:Int):=by unfold wrap64;omega
        have rl:=fun h=>HL.out m (by omega) h (fun j a b=>hs j (by omega) b)
        have re:xs.getD m 0 = ys.getD m 0→∀ j,S≤j + (k + 1)→j < S→xs.getD j 0 = ys.getD j 0:=fun h j a b=>by
          by_cases e:j = m
          · subst e;exact h
          · exact hs j (by omega) b
        obtain ⟨X,hX⟩:∃ X,X = xs.getD m 0:=⟨_,rfl⟩
        obtain ⟨Y,hY⟩:∃ Y,Y = ys.getD m 0:=⟨_,rfl⟩
        rw [hm2] at hX hY
        rw [← hX] at e1
        rw [← hY] at e2
        rw [← hm2] at hX hY
        rw [← hX,← hY] at rl re
        clear hc hc' HX HY HN HD HL hs hN hM hX hY lS lT
        by_cases cx:X = Y
        · have hs2:=re cx
          subst cx
          have t1:(X != X) = false:=by simp
          clear rl re
          go_wp2
          refine wp_region_kp (by kernel_rfl) (by kernel_rfl) (fun ι _ G hG hall=>?_)
          have c0:∀ n,(G n).cell? ⟨b,off + (S - 1 - k),none⟩ = some (.int .u32 X):=fun n=>kkeep (hG n) e1
          have c1:∀ n,(G n).cell? ⟨b',off' + (S - 1 - k),none⟩ = some (.int .u32 X):=fun n=>kkeep (hG n) e2
          repeat (go_big_quiet_step (fail))
          refine wpQuiet_nil ?_
          rintro _ ⟨nq,rfl⟩
          have gq:=hG nq
          replace e1:=kkeep gq e1
          replace e2:=kkeep gq e2
          replace hg:=hg.trans gq
          clear c0 c1 hall hG gq
          go_wp2
          exact ⟨⟨k + 1,by omega,by go_num,hg,hs2⟩,by simp [intOf];omega⟩
        · have t1:(X != Y) = true:=by simp [cx]
          have hcm:=compare_u X Y
          rw [rl cx] at hcm
          clear rl re cx
          go_wp2
          refine wp_region_kp (by kernel_rfl) (by kernel_rfl) (fun ι _ G hG hall=>?_)
          have c0:∀ n,(G n).cell? ⟨b,off + (S - 1 - k),none⟩ = some (.int .u32 X):=fun n=>kkeep (hG n) e1
          have c1:∀ n,(G n).cell? ⟨b',off' + (S - 1 - k),none⟩ = some (.int .u32 Y):=fun n=>kkeep (hG n) e2
          repeat (go_big_quiet_step (fail))
          refine wpQuiet_nil ?_
          rintro _ ⟨nq,rfl⟩
          have gq:=hG nq
          replace e1:=kkeep gq e1
          replace e2:=kkeep gq e2
          replace hg:=hg.trans gq
          clear c0 c1 hall hG gq
          go_wp2
          go_region_held3 (fun w'=>w'.cell? ⟨b,off + (S - 1 - k),none⟩ = some (.int .u32 X)∧w'.cell? ⟨b',off' + (S - 1 - k),none⟩ = some (.int .u32 Y)) (exact ⟨e1,e2⟩) (first | (go_at_call 150;refine (hcm _).mono ?_;rintro e w' ⟨rfl,rfl⟩))
          go_wp2
          exact bodyPost_ret (v:=.int .i64 R) (by simp [results,Tryz.results135,go_sem] <;> simp only [*]) rfl ⟨rfl,(by repeat (with_reducible (first | assumption | exact Kp.refl _ | apply Kp.drew | apply Kp.alloc | apply Kp.drewN | (refine Kp.trans ?_ (by assumption)))))⟩
      · have hR0:=HD.out (fun j hj=>hs j (by omega) hj)
        subst hR0
        have i2:¬ ((k:Int) < (S:Int)):=by omega
        clear HX HY HN HD HL hs lS lT hk ck
        go_wp2
        exact bodyPost_ret (v:=.int .i64 0) (by simp [results,Tryz.results135,go_sem] <;> simp only [*]) rfl ⟨rfl,hg⟩
  · have t1:((S:Int) != (T:Int)) = true:=by simp;omega
    have hcm:=compare_i (S:Int) (T:Int)
    rw [dne cST] at hcm
    clear dne deq tne HX HY HN cST lS lT
    go_enter Tryz.func135,Tryz.ntmps135
    go_wp2_with fail
    refine h1.mono ?_;rintro e w' ⟨rfl,hw'⟩;obtain rfl:=hw'.symm
    go_wp2_with fail
    refine h2.mono ?_;rintro e w' ⟨rfl,hw'⟩;obtain rfl:=hw'.symm
    go_wp2_with (first | (go_at_call 149;refine (hcm _).mono ?_;rintro e w' ⟨rfl,rfl⟩))
    exact bodyPost_ret (v:=.int .i64 R) (by simp [results,Tryz.results135,go_sem] <;> simp only [*]) rfl ⟨rfl,hg⟩
theorem quotient_ (p q:Option Addr) (c d:Nat) (xs ys:List Int) (w:World) (hx:Arr w p xs) (hy:Arr w q ys) (hnx:xs = dig (val xs)) (hny:ys = dig (val ys)) (lx:xs.length≤1048576) (ly:ys.length≤1048576) (hc:xs.length≤c) (hd:ys.length≤d) (h0:0 < val ys) :
    Calls Tryz.prog 133 #[.slice p xs.length c,.slice q ys.length d] w fun e w'=>∃ v,e = .returned v∧Two w' w.heap.size (dig (val xs / val ys)) (dig (val xs % val ys)) v∧Kp w w':=by
  have hwx:Wd xs:=by rw [hnx];exact Wd_dig _
  have hwy:Wd ys:=by rw [hny];exact Wd_dig _
  have hcm:=ncmp_ p q c d xs ys w hx hy hwx hwy (by omega) (by omega) hc hd
  obtain ⟨N,hN⟩:∃ N,N = xs.length:=⟨_,rfl⟩
  obtain ⟨M,hM⟩:∃ M,M = ys.length:=⟨_,rfl⟩
  have hylast:ys.getD (ys.length - 1) 0≠0:=by
    rcases last_dig (val ys) with h | h
    · exfalso
      rw [← hny] at h
      rw [h] at h0
      exact absurd h0 (by simp [val])
    · rw [← hny] at h
      exact h
  have hM0:0 < M:=by
    by_cases e:M = 0
    · exfalso
      have:ys = []:=List.length_eq_zero_iff.1 (by omega)
      rw [this] at h0
      exact absurd h0 (by simp [val])
    · omega
  by_cases ca:val xs < val ys
  · rw [cmpN_lt ca] at hcm
    have hfr:=fun w' h=>fresh_ p c xs w' (hx.grown h) (by omega)
    have e1:val xs / val ys = 0:=Nat.div_eq_of_lt ca
    have e2:val xs % val ys = val xs:=Nat.mod_eq_of_lt ca
    rw [e1,e2,dig_zero,← hnx]
    rw [← hN] at hcm hfr
    rw [← hM] at hcm
    have lN:N≤1048576:=by omega
    have HX:Hid (N = xs.length):=hN
    rw [← hN,← hM]
    clear hx hy hnx hny lx ly hc hd h0 hwx hwy hylast hM0 ca e1 e2 hN hM
    go_enter Tryz.func133,Tryz.ntmps133
    go_wp2_with fail
    refine hcm.mono ?_
    rintro e w1 ⟨rfl,hk1⟩
    clear hcm
    have hf1:=hfr w1 hk1
    clear hfr
    go_wp2_with fail
    refine hf1.mono ?_
    rintro e w2 ⟨g,rfl,hg,hR,hk2⟩
    have hO:Own w2 w.heap.size (.slice (some ⟨g,0,none⟩) N N) xs:=by
      have h1:=Own.of_row (base:=w.heap.size) (k:=N) hR (by have:=hk1.size;omega) (Nat.le_refl _) HX.out.symm (by unfold maxLen;omega)
      rwa [List.take_of_length_le (by rw [← HX.out];exact Nat.le_refl _)] at h1
    have HZ:Hid (Two w2 w.heap.size [] xs (.tuple #[.slice none 0 0,.slice (some ⟨g,0,none⟩) N N])∧Kp w w2):=⟨⟨none,0,some ⟨g,0,none⟩,N,by rw [← HX.out];rfl,Own.nil _ _,by rw [← HX.out];exact hO,fun g e=>by cases e⟩,hk1.trans hk2⟩
    clear hf1 hg hR hk2 hO hk1
    go_wp2
    exact bodyPost_ret (v:=.tuple #[.slice none 0 0,.slice (some ⟨g,0,none⟩) N N]) (by simp [results,Tryz.results133,go_sem]) rfl ⟨_,rfl,HZ.out.1,HZ.out.2⟩
  · obtain ⟨cc,hcc⟩:∃ cc,cc = cmpN (val xs) (val ys):=⟨_,rfl⟩
    rw [← hcc] at hcm
    have hc0:¬ (cc < 0):=by
      rw [hcc];unfold cmpN;rw [if_neg ca];split <;> omega
    clear hcc
    by_cases cm:M = 1
    · have hc1:=hy.at (k:=0) (by omega)
      obtain ⟨b',off',rfl,hc'⟩:=hc1
      have e1:=hc' 0 (by omega)
      have wy:=hwy 0
      obtain ⟨b,hb⟩:∃ b:Nat,(b:Int) = ys.getD 0 0:=⟨_,Int.toNat_of_nonneg wy.1⟩
      rw [← hb,Nat.add_zero] at e1
      have hv:val ys = b:=by
        have h1:=val_take_succ ys 0
        rw [List.take_of_length_le (by omega),← hb] at h1
        simpa [val] using h1
      rw [hv] at h0 ⊢
      have hbo:=fun w' h=>byWord_ p c b xs w' (hx.grown h) hwx lx h0 (by omega)
      rw [← hN] at hcm hbo
      rw [← hM,cm] at hcm
      rw [← hN,← hM,cm]
      clear hx hy hnx hny lx ly hc hd h0 hwx hwy hylast hM0 ca hN hM hc' wy hb hv cm
      go_enter Tryz.func133,Tryz.ntmps133
      go_wp2_with fail
      refine hcm.mono ?_
      rintro e w1 ⟨rfl,hk1⟩
      clear hcm
      have hb1:=hbo w1 hk1
      replace e1:=kkeep hk1 e1
      clear hbo
      go_wp2_with fail
      refine hb1.mono ?_
      rintro e w2 ⟨v,rfl,⟨p1,c1,p2,c2,rfl,o1,o2,hne⟩,hk2⟩
      obtain ⟨L1,hL1⟩:∃ L1,L1 = (dig (val xs / b)).length:=⟨_,rfl⟩
      obtain ⟨L2,hL2⟩:∃ L2,L2 = (dig (val xs % b)).length:=⟨_,rfl⟩
      have HZ:Hid (Two w2 w.heap.size (dig (val xs / b)) (dig (val xs % b)) (.tuple #[.slice p1 L1 c1,.slice p2 L2 c2])∧Kp w w2):=⟨⟨p1,c1,p2,c2,by rw [hL1,hL2],o1.mono hk1.size,o2.mono hk1.size,hne⟩,hk1.trans hk2⟩
      rw [← hL1,← hL2]
      clear hb1 o1 o2 hne hk2 hk1 e1 hL1 hL2
      go_wp2
      exact bodyPost_ret (v:=.tuple #[.slice p1 L1 c1,.slice p2 L2 c2]) (by simp [results,Tryz.results133,go_sem]) rfl ⟨_,rfl,HZ.out.1,HZ.out.2⟩
    · have hle:ys.length≤xs.length:=by
        have h1:=len32_mono (show val ys≤val xs by omega)
        unfold len32 at h1
        rwa [← hnx,← hny] at h1
      have hbw:=fun w' h=>byWords_ p q c d xs ys w' (hx.grown h) (hy.grown h) hwx hwy lx hle (by omega) hylast
      rw [← hN,← hM] at hcm hbw
      rw [← hN,← hM]
      have t1:¬ (M:Int) = 1:=by omega
      clear hx hy hnx hny lx ly hc hd h0 hwx hwy hylast hM0 ca hN hM hle cm
      go_enter Tryz.func133,Tryz.ntmps133
      go_wp2_with fail
      refine hcm.mono ?_
      rintro e w1 ⟨rfl,hk1⟩
      clear hcm
      have hb1:=hbw w1 hk1
      clear hbw
      go_wp2_with fail
      refine hb1.mono ?_
      rintro e w2 ⟨v,rfl,⟨p1,c1,p2,c2,rfl,o1,o2,hne⟩,hk2⟩
      obtain ⟨L1,hL1⟩:∃ L1,L1 = (dig (val xs / val ys)).length:=⟨_,rfl⟩
      obtain ⟨L2,hL2⟩:∃ L2,L2 = (dig (val xs % val ys)).length:=⟨_,rfl⟩
      have HZ:Hid (Two w2 w.heap.size (dig (val xs / val ys)) (dig (val xs % val ys)) (.tuple #[.slice p1 L1 c1,.slice p2 L2 c2])∧Kp w w2):=⟨⟨p1,c1,p2,c2,by rw [hL1,hL2],o1.mono hk1.size,o2.mono hk1.size,hne⟩,hk1.trans hk2⟩
      rw [← hL1,← hL2]
      clear hb1 o1 o2 hne hk2 hk1 hL1 hL2
      go_wp2
      exact bodyPost_ret (v:=.tuple #[.slice p1 L1 c1,.slice p2 L2 c2]) (by simp [results,Tryz.results133,go_sem]) rfl ⟨_,rfl,HZ.out.1,HZ.out.2⟩
theorem nquo_ (p q:Option Addr) (c d:Nat) (xs ys:List Int) (w:World) (hx:Arr w p xs) (hy:Arr w q ys) (hwx:Wd xs) (hwy:Wd ys) (lx:xs.length≤1048576) (ly:ys.length≤1048576) (hc:xs.length≤c) (hd:ys.length≤d) :
    Calls Tryz.prog 116 #[.slice p xs.length c,.slice q ys.length d] w fun e w'=>(∃ p1 c1 p2 c2,e = .returned (.tuple #[.slice p1 (quoN (val xs) (val ys)).1.length c1,.slice p2 (quoN (val xs) (val ys)).2.1.length c2,.int .i64 (quoN (val xs) (val ys)).2.2])∧Own w' w.heap.size (.slice p1 (quoN (val xs) (val ys)).1.length c1) (quoN (val xs) (val ys)).1∧Own w' w.heap.size (.slice p2 (quoN (val xs) (val ys)).2.1.length c2) (quoN (val xs) (val ys)).2.1∧(∀ g,p1 = some ⟨g,0,none⟩→p2≠some ⟨g,0,none⟩))∧Kp w w':=by
  have h1:=trim_ p c xs w hx (by omega) hc
  have h2:=trim_ q d ys w hy (by omega) hd
  have l1:=tooLong_ p (tl xs) c w
  have l2:=tooLong_ q (tl ys) d w
  have ex:nz xs = dig (val xs):=nz_dig xs hwx
  have ey:nz ys = dig (val ys):=nz_dig ys hwy
  have hAx:Arr w p (nz xs):=hx.take _
  have hAy:Arr w q (nz ys):=hy.take _
  have tx:=tl_le xs
  have ty:=tl_le ys
  have hqu:=fun h0=>quotient_ p q c d (nz xs) (nz ys) w hAx hAy (by rw [val_nz];exact ex) (by rw [val_nz];exact ey) (by rw [nz_length];omega) (by rw [nz_length];omega) (by rw [nz_length];omega) (by rw [nz_length];omega) h0
  rw [nz_length,nz_length,val_nz,val_nz] at hqu
  have hlx:tl xs = len32 (val xs):=tl_len xs hwx
  have hly:tl ys = len32 (val ys):=tl_len ys hwy
  obtain ⟨N,hN⟩:∃ N,N = xs.length:=⟨_,rfl⟩
  obtain ⟨M,hM⟩:∃ M,M = ys.length:=⟨_,rfl⟩
  obtain ⟨S,hS⟩:∃ S,S = tl xs:=⟨_,rfl⟩
  obtain ⟨T,hT⟩:∃ T,T = tl ys:=⟨_,rfl⟩
  rw [← hN,← hS] at h1
  rw [← hM,← hT] at h2
  rw [← hS] at l1 hlx
  rw [← hT] at l2 hly
  rw [← hS,← hT] at hqu
  rw [← hN,← hM]
  have hT0:T = 0 ↔ val ys = 0:=by
    rw [hly]
    constructor
    · intro e
      unfold len32 at e
      have:=List.length_eq_zero_iff.1 e
      have h:=val_dig (val ys)
      rw [this] at h
      exact h.symm
    · intro e
      rw [e]
      unfold len32
      rw [dig_zero];rfl
  clear hx hy hwx hwy lx ly hc hd ex ey hAx hAy tx ty hN hM hS hT
  unfold quoN
  by_cases c0:val ys = 0
  · have t0:T = 0:=hT0.2 c0
    subst t0
    simp only [if_pos c0]
    clear hqu hT0 hlx hly c0
    go_enter Tryz.func116,Tryz.ntmps116
    go_wp2_with fail
    refine h1.mono ?_;rintro e w' ⟨rfl,hw'⟩;obtain rfl:=hw'.symm;clear h1
    go_wp2_with fail
    refine h2.mono ?_;rintro e w' ⟨rfl,hw'⟩;obtain rfl:=hw'.symm;clear h2
    go_wp2
    exact bodyPost_ret (v:=.tuple #[.slice none 0 0,.slice none 0 0,.int .i64 1]) (by simp [results,Tryz.results116,go_sem]) rfl ⟨⟨none,0,none,0,rfl,Own.nil _ _,Own.nil _ _,fun g e=>by cases e⟩,Kp.refl _⟩
  · have t0:¬ (T:Int) = 0:=by have:=mt hT0.1 c0;omega
    simp only [if_neg c0]
    have hqu2:=hqu (by omega)
    clear hqu hT0
    by_cases cl:16384 < len32 (val xs)∨16384 < len32 (val ys)
    · simp only [if_pos cl]
      rw [← hlx,← hly] at cl
      by_cases ca:16384 < S
      · rw [decide_eq_true ca] at l1
        clear hqu2 hlx hly cl ca c0
        go_enter Tryz.func116,Tryz.ntmps116
        go_wp2_with fail
        refine h1.mono ?_;rintro e w' ⟨rfl,hw'⟩;obtain rfl:=hw'.symm;clear h1
        go_wp2_with fail
        refine h2.mono ?_;rintro e w' ⟨rfl,hw'⟩;obtain rfl:=hw'.symm;clear h2
        go_wp2_with fail
        refine l1.mono ?_;rintro e w' ⟨rfl,hw'⟩;obtain rfl:=hw'.symm;clear l1
        go_wp2
        exact bodyPost_ret (v:=.tuple #[.slice none 0 0,.slice none 0 0,.int .i64 2]) (by simp [results,Tryz.results116,go_sem]) rfl ⟨⟨none,0,none,0,rfl,Own.nil _ _,Own.nil _ _,fun g e=>by cases e⟩,Kp.refl _⟩
      · rw [decide_eq_false ca] at l1
        rw [decide_eq_true (show 16384 < T by omega)] at l2
        clear hqu2 hlx hly cl ca c0
        go_enter Tryz.func116,Tryz.ntmps116
        go_wp2_with fail
        refine h1.mono ?_;rintro e w' ⟨rfl,hw'⟩;obtain rfl:=hw'.symm;clear h1
        go_wp2_with fail
        refine h2.mono ?_;rintro e w' ⟨rfl,hw'⟩;obtain rfl:=hw'.symm;clear h2
        go_wp2_with fail
        refine l1.mono ?_;rintro e w' ⟨rfl,hw'⟩;obtain rfl:=hw'.symm;clear l1
        go_wp2_with fail
        refine l2.mono ?_;rintro e w' ⟨rfl,hw'⟩;obtain rfl:=hw'.symm;clear l2
        go_wp2
        exact bodyPost_ret (v:=.tuple #[.slice none 0 0,.slice none 0 0,.int .i64 2]) (by simp [results,Tryz.results116,go_sem]) rfl ⟨⟨none,0,none,0,rfl,Own.nil _ _,Own.nil _ _,fun g e=>by cases e⟩,Kp.refl _⟩
    · simp only [if_neg cl]
      rw [← hlx,← hly] at cl
      rw [decide_eq_false (show ¬ 16384 < S by omega)] at l1
      rw [decide_eq_false (show ¬ 16384 < T by omega)] at l2
      clear hlx hly cl c0
      go_enter Tryz.func116,Tryz.ntmps116
      go_wp2_with fail
      refine h1.mono ?_;rintro e w' ⟨rfl,hw'⟩;obtain rfl:=hw'.symm;clear h1
      go_wp2_with fail
      refine h2.mono ?_;rintro e w' ⟨rfl,hw'⟩;obtain rfl:=hw'.symm;clear h2
      go_wp2_with fail
      refine l1.mono ?_;rintro e w' ⟨rfl,hw'⟩;obtain rfl:=hw'.symm;clear l1
      go_wp2_with fail
      refine l2.mono ?_;rintro e w' ⟨rfl,hw'⟩;obtain rfl:=hw'.symm;clear l2
      go_wp2_with fail
      refine hqu2.mono ?_
      rintro e w2 ⟨v,rfl,⟨p1,c1,p2,c2,rfl,o1,o2,hne⟩,hk2⟩
      obtain ⟨L1,hL1⟩:∃ L1,L1 = (dig (val xs / val ys)).length:=⟨_,rfl⟩
      obtain ⟨L2,hL2⟩:∃ L2,L2 = (dig (val xs % val ys)).length:=⟨_,rfl⟩
      have HZ:Hid ((∃ p1' c1' p2' c2',Ending.returned (Value.tuple #[.slice p1 L1 c1,.slice p2 L2 c2,.int .i64 0]) = .returned (.tuple #[.slice p1' (dig (val xs / val ys)).length c1',.slice p2' (dig (val xs % val ys)).length c2',.int .i64 0])∧Own w2 w.heap.size (.slice p1' (dig (val xs / val ys)).length c1') (dig (val xs / val ys))∧Own w2 w.heap.size (.slice p2' (dig (val xs % val ys)).length c2') (dig (val xs % val ys))∧(∀ g,p1' = some ⟨g,0,none⟩→p2'≠some ⟨g,0,none⟩))∧Kp w w2):=⟨⟨p1,c1,p2,c2,by rw [hL1,hL2],o1,o2,hne⟩,hk2⟩
      rw [← hL1,← hL2]
      clear hqu2 o1 o2 hne hk2 hL1 hL2 t0
      go_wp2
      exact bodyPost_ret (v:=.tuple #[.slice p1 L1 c1,.slice p2 L2 c2,.int .i64 0]) (by simp [results,Tryz.results116,go_sem]) rfl HZ.out
theorem diff_ (p q:Option Addr) (c d:Nat) (xs ys:List Int) (w:World) (hx:Arr w p xs) (hy:Arr w q ys) (hwx:Wd xs) (hwy:Wd ys) (lx:xs.length < 1099511627775) (hl:ys.length≤xs.length) (hle:val ys≤val xs) :
    Calls Tryz.prog 140 #[.slice p xs.length c,.slice q ys.length d] w fun e w'=>∃ v,e = .returned v∧Own w' w.heap.size v (dig (val xs - val ys))∧Kp w w':=by
  have hfr:=fresh_ p c xs w hx (by omega)
  obtain ⟨N,hN⟩:∃ N,N = xs.length:=⟨_,rfl⟩
  obtain ⟨M,hM⟩:∃ M,M = ys.length:=⟨_,rfl⟩
  have hNM:M≤N:=by omega
  rw [← hN] at hfr ⊢
  rw [← hM]
  have hb1:N < 1099511627775:=by omega
  have HX:Hid (Arr w p xs):=hx
  have HY:Hid (Arr w q ys):=hy
  have HW:Hid (Wd xs∧Wd ys∧val ys≤val xs):=⟨hwx,hwy,hle⟩
  have HN:Hid (N = xs.length∧M = ys.length∧M≤N):=⟨hN,hM,hNM⟩
  clear hx hy hwx hwy lx hl hN hM hle
  go_enter Tryz.func140,Tryz.ntmps140
  go_wp2_with fail
  refine hfr.mono ?_;rintro e w2 ⟨g,rfl,hgw,hrz,hk2⟩
  clear hfr
  have HG:Hid (w.heap.size≤g):=hgw
  clear hgw
  go_wp2
  go_loopw [6,13] (fun cc i wr=>∃ (k C:Nat) (zs:List Int),cc = .int .u32 C∧i = .int .i64 k∧k≤M∧Rw wr g N zs∧zs.length = N∧Wd zs∧C≤1∧val zs + val (ys.take k) = val xs + C * 4294967296 ^ k∧(∀ j,k≤j→j < N→zs.getD j 0 = xs.getD j 0)∧Kp w wr) (fun _ i _=>M - (intOf i).toNat)
  case atStart=>exact ⟨0,0,xs,rfl,rfl,Nat.zero_le _,hrz,HN.out.1.symm,HW.out.1,by omega,by simp [val],fun j _ _=>rfl,hk2⟩
  case round =>
    clear hrz hk2
    obtain ⟨k,C,zs,rfl,rfl,hk,hrow,hzl,hwz,hC,hv,hsam,hkp⟩:=hrel
    obtain ⟨hN,hM,hNM⟩:=HN.out
    obtain ⟨hwx,hwy,hle⟩:=HW.out
    by_cases ck:k < M
    · obtain ⟨b,off,rfl,hc⟩:=HX.out.at (k:=k) (by omega)
      obtain ⟨b',off',rfl,hc'⟩:=HY.out.at (k:=k) (by omega)
      have e1:=kkeep hkp (hc k (by omega))
      have e2:=kkeep hkp (hc' k (by omega))
      have hbg:b≠g:=by have:=cell_lt (hc k (by omega));have:=HG.out;omega
      have hbg':b'≠g:=by have:=cell_lt (hc' k (by omega));have:=HG.out;omega
      have e3:=World.rowIs.cell hrow (i:=k) (by omega)
      have e4:=World.rowIs.frozen hrow k
      have wx:=hwx k
      have wy:=hwy k
      have hzX:=hsam k (Nat.le_refl _) (by omega)
      have hst:=fun (C' Z:Nat) h=>diff_step zs k C C' Z _ _ (xs.getD k 0) (ys.getD k 0) (by omega) hzX h hv
      rw [← val_take_succ] at hst
      obtain ⟨X,hX⟩:∃ X:Nat,(X:Int) = xs.getD k 0:=⟨(xs.getD k 0).toNat,by omega⟩
      obtain ⟨Y,hY⟩:∃ Y:Nat,(Y:Int) = ys.getD k 0:=⟨(ys.getD k 0).toNat,by omega⟩
      rw [← hX] at e1 wx hst
      rw [← hY] at e2 wy hst
      simp only [Int.toNat_natCast] at hst
      have had:=sub32_ X Y C (by omega) (by omega) hC
      obtain ⟨Z,hZ⟩:∃ Z:Nat,Z = (X + 8589934592 - Y - C) % 4294967296:=⟨_,rfl⟩
      obtain ⟨C',hC2⟩:∃ C':Nat,C' = if X < Y + C then 1 else 0:=⟨_,rfl⟩
      rw [← hZ,← hC2] at had
      have hC':C'≤1:=by rw [hC2];split <;> omega
      have hs2:=hst C' Z (by rw [hC2,hZ];split <;> omega)
      have hsam2:∀ j,k + 1≤j→j < N→(zs.set k (Z:Int)).getD j 0 = xs.getD j 0:=fun j h1 h2=>by
        rw [← hsam j (by omega) h2];simp [List.getD,show ¬ k = j from by omega]
      have hw2:Wd (zs.set k (Z:Int)):=hwz.set k Z (by omega)
      have hl2:(zs.set k (Z:Int)).length = N:=by rw [List.length_set];exact hzl
      have hrs:∀ w':World,Kp wr w'→Rw (w'.setCell ⟨g,k,none⟩ (.int .u32 (Z:Int))) g N (zs.set k (Z:Int)):=fun w' h=>(hrow.grown h).set k Z (by omega)
      have hkk:k < N:=by omega
      have i0:(0:Int)≤(k:Int):=by omega
      have i1:(k:Int) < (N:Int):=by omega
      have i2:(k:Int) < (M:Int):=by omega
      have hgw:=HG.out
      clear hc hc' HX HY HW HN HG hN hM hX hY hv hZ hC2 wx wy hwz hC hwx hwy hzX hsam hzl hrow hst hle
      go_wp2
      go_region_held3 (fun w'=>w'.cell? ⟨b,off + k,none⟩ = some (.int .u32 (X:Int))∧w'.cell? ⟨b',off' + k,none⟩ = some (.int .u32 (Y:Int))) (first | (exact ⟨e1,e2⟩) | (exact ⟨(World.cell?_setCell_far _ _ _ _ (Ne.symm hbg)).trans e1,(World.cell?_setCell_far _ _ _ _ (Ne.symm hbg')).trans e2⟩)) (first | (go_at_call 152;refine (had _).mono ?_;rintro e w' ⟨rfl,rfl⟩))
      have hR:Rw (wr.setCell ⟨g,k,none⟩ (.int .u32 (Z:Int))).drew g N (zs.set k (Z:Int)):=hrs wr (Kp.refl _)
      have hK:Kp w (wr.setCell ⟨g,k,none⟩ (.int .u32 (Z:Int))).drew:=(hkp.setCell hgw _).drew
      clear hrs hkp e1 e2 e3 e4 had
      go_wp2
      exact ⟨⟨k + 1,C',zs.set k (Z:Int),rfl,by go_num,by omega,hR,hl2,hw2,hC',hs2,hsam2,hK⟩,by simp [intOf];omega⟩
    · have hkM:k = M:=by omega
      subst hkM
      rw [hM,List.take_length,← hM] at hv
      have i2:¬ ((k:Int) < (k:Int)):=by omega
      have HV:Hid (val zs + val ys = val xs + C * 4294967296 ^ k):=hv
      clear hv HX HY hsam hk ck hN hM hNM hwx hwy hle
      go_wp2
      go_loopw [6,8] (fun cc i wq=>∃ (j C:Nat) (zs:List Int),cc = .int .u32 C∧i = .int .i64 j∧Rw wq g N zs∧zs.length = N∧Wd zs∧C≤1∧val zs + val ys = val xs + C * 4294967296 ^ j∧Kp w wq∧j≤N) (fun _ i _=>N + 1 - (intOf i).toNat)
      case atStart=>exact ⟨k,C,zs,rfl,rfl,hrow,hzl,hwz,hC,HV.out,hkp,by have:=HN.out.2.2;omega⟩
      case round =>
        clear hrow hzl hwz hC HV hkp
        obtain ⟨j,C,zs,rfl,rfl,hrow,hzl,hwz,hC,hv,hkp,hj⟩:=hrel
        obtain ⟨hN,hM,hNM⟩:=HN.out
        obtain ⟨hwx,hwy,hle⟩:=HW.out
        rcases (by omega:C = 0∨C = 1) with rfl | rfl
        · rw [Nat.zero_mul,Nat.add_zero] at hv
          have hv2:val zs = val xs - val ys:=by omega
          have hA:=hrow.arr N (Nat.le_refl _) (by omega)
          rw [List.take_of_length_le (by omega)] at hA
          have htr:=trim_ (some ⟨g,0,none⟩) N zs wr hA (by omega) (by omega)
          have hO:Own wr w.heap.size (.slice (some ⟨g,0,none⟩) (tl zs) N) (dig (val xs - val ys)):=by
            have h1:=Own.of_row (base:=w.heap.size) (k:=tl zs) hrow HG.out (by have:=tl_le zs;omega) hzl (by unfold maxLen;omega)
            have h2:zs.take (tl zs) = dig (val xs - val ys):=by rw [← hv2,← nz_dig zs hwz];rfl
            rw [h2] at h1
            exact h1
          rw [hzl] at htr
          obtain ⟨T,hT⟩:∃ T,T = tl zs:=⟨_,rfl⟩
          rw [← hT] at htr hO
          clear hA hrow hzl hwz hC hv hj hT HW HN HG hN hM hNM hwx hwy i2 hle hv2
          go_wp2_with (first | (go_at_call 90;refine htr.mono ?_;rintro e w' ⟨rfl,rfl⟩))
          exact bodyPost_ret (v:=.slice (some ⟨g,0,none⟩) T N) (by simp [results,Tryz.results140,go_sem] <;> simp only [*]) rfl ⟨_,rfl,hO,hkp⟩
        · have hjN:j < N:=diff_room zs xs ys j N hzl hwz hle hv
          have e3:=World.rowIs.cell hrow (i:=j) (by omega)
          have e4:=World.rowIs.frozen hrow j
          have wz:=hwz j
          obtain ⟨Z0,hZ0⟩:∃ Z0:Nat,(Z0:Int) = zs.getD j 0:=⟨(zs.getD j 0).toNat,by omega⟩
          have hst:=fun (C' Z:Nat) h=>diff_step zs j 1 C' Z _ _ (Z0:Int) 0 (by omega) hZ0.symm h hv
          simp only [Int.toNat_natCast] at hst
          obtain ⟨Z,hZ⟩:∃ Z:Nat,Z = (Z0 + 8589934592 - 0 - 1) % 4294967296:=⟨_,rfl⟩
          obtain ⟨C',hC2⟩:∃ C':Nat,C' = if Z0 < 0 + 1 then 1 else 0:=⟨_,rfl⟩
          have had:∀ w:World,Calls Tryz.prog 152 #[.int .u32 (Z0:Int),.int .u32 0,.int .u32 1] w fun e w'=>e = .returned (.tuple #[.int .u32 (Z:Int),.int .u32 (C':Int)])∧w' = w:=by
            rw [hZ,hC2];exact sub32_ Z0 0 1 (by omega) (by omega) (by omega)
          have hC':C'≤1:=by rw [hC2];split <;> omega
          have hs2:=hst C' Z (by rw [show (0:Int).toNat = 0 from rfl,hC2,hZ];split <;> omega)
          rw [show (0:Int).toNat = 0 from rfl,Nat.zero_mul,Nat.add_zero] at hs2
          have hw2:Wd (zs.set j (Z:Int)):=hwz.set j Z (by omega)
          have hl2:(zs.set j (Z:Int)).length = N:=by rw [List.length_set];exact hzl
          have hR:Rw (wr.setCell ⟨g,j,none⟩ (.int .u32 (Z:Int))) g N (zs.set j (Z:Int)):=hrow.set j Z (by omega)
          have hK:Kp w (wr.setCell ⟨g,j,none⟩ (.int .u32 (Z:Int))):=hkp.setCell HG.out _
          have e3':wr.cell? ⟨g,j,none⟩ = some (.int .u32 (Z0:Int)):=by rw [hZ0];exact e3
          have i0:(0:Int)≤(j:Int):=by omega
          have i3:(j:Int) < (N:Int):=by omega
          clear e3 hrow hzl hwz hC hv hZ hC2 hZ0 wz HW HN HG hN hM hNM hwx hwy i2 hkp hst hle
          go_wp2_with (first | (go_at_call 152;refine (had _).mono ?_;rintro e w' ⟨rfl,rfl⟩))
          exact ⟨⟨j + 1,C',zs.set j (Z:Int),rfl,by go_num,hR,hl2,hw2,hC',hs2,hK,by omega⟩,by simp [intOf];omega⟩
theorem nsub_ (p q:Option Addr) (c d:Nat) (xs ys:List Int) (w:World) (hx:Arr w p xs) (hy:Arr w q ys) (hwx:Wd xs) (hwy:Wd ys) (lx:xs.length < 1099511627775) (ly:ys.length < 1099511627775) (hc:xs.length≤c) (hd:ys.length≤d) :
    Calls Tryz.prog 134 #[.slice p xs.length c,.slice q ys.length d] w fun e w'=>∃ v,e = .returned (.tuple #[v,.int .i64 (subN (val xs) (val ys)).2])∧Own w' w.heap.size v (subN (val xs) (val ys)).1∧Kp w w':=by
  have h1:=trim_ p c xs w hx (by omega) hc
  have h2:=trim_ q d ys w hy (by omega) hd
  have lS:=tl_le xs
  have lT:=tl_le ys
  have h3:=ncmp_ p q c d (nz xs) (nz ys) w (hx.take _) (hy.take _) (hwx.take _) (hwy.take _) (by rw [nz_length];omega) (by rw [nz_length];omega) (by rw [nz_length];omega) (by rw [nz_length];omega)
  have h4:=tooLong_ p (tl xs) c
  rw [nz_length,nz_length,val_nz,val_nz] at h3
  have hb:val ys≤val xs→tl ys≤tl xs:=tl_mono ys xs hwy hwx
  have h5:val ys≤val xs→∀ w',Kp w w'→Calls Tryz.prog 140 #[.slice p (tl xs) c,.slice q (tl ys) d] w' fun e w''=>∃ v,e = .returned v∧Own w'' w'.heap.size v (dig (val xs - val ys))∧Kp w' w'':=fun hle w' k=>by
    have:=diff_ p q c d (nz xs) (nz ys) w' ((hx.take _).grown k) ((hy.take _).grown k) (hwx.take _) (hwy.take _) (by rw [nz_length];omega) (by rw [nz_length,nz_length];exact hb hle) (by rw [val_nz,val_nz];exact hle)
    rw [nz_length,nz_length,val_nz,val_nz] at this
    exact this
  have e1:=tl_len xs hwx
  obtain ⟨N,hN⟩:∃ N,N = xs.length:=⟨_,rfl⟩
  obtain ⟨M,hM⟩:∃ M,M = ys.length:=⟨_,rfl⟩
  obtain ⟨S,hS⟩:∃ S,S = tl xs:=⟨_,rfl⟩
  obtain ⟨T,hT⟩:∃ T,T = tl ys:=⟨_,rfl⟩
  obtain ⟨a,ha⟩:∃ a,a = val xs:=⟨_,rfl⟩
  obtain ⟨b,hb'⟩:∃ b,b = val ys:=⟨_,rfl⟩
  rw [← hN,← hS] at h1
  rw [← hM,← hT] at h2
  rw [← hS,← hT,← ha,← hb'] at h3 h5
  rw [← hS] at h4 e1
  rw [← ha] at e1
  rw [← hN,← hM,← ha,← hb']
  clear hx hy hwx hwy lx ly hc hd hN hM hS hT lS lT hb ha hb'
  by_cases c1:a < b
  · rw [cmpN_lt c1] at h3
    have e3:subN a b = ([],1):=by unfold subN;rw [if_pos c1]
    rw [e3]
    clear h4 h5 c1 e1 e3
    go_enter Tryz.func134,Tryz.ntmps134
    go_wp2_with fail
    refine h1.mono ?_;rintro e w' ⟨rfl,hw'⟩;obtain rfl:=hw'.symm
    go_wp2_with fail
    refine h2.mono ?_;rintro e w' ⟨rfl,hw'⟩;obtain rfl:=hw'.symm
    go_wp2_with fail
    refine h3.mono ?_;rintro e w1 ⟨rfl,k1⟩
    go_wp2
    exact bodyPost_ret (v:=.tuple #[.slice none 0 0,.int .i64 1]) (by simp [results,Tryz.results134,go_sem] <;> simp only [*]) rfl ⟨_,rfl,Own.nil _ _,k1⟩
  have t1:¬ (cmpN a b < 0):=by
    unfold cmpN;rw [if_neg c1];split <;> omega
  obtain ⟨R,hR⟩:∃ R,R = cmpN a b:=⟨_,rfl⟩
  rw [← hR] at h3 t1
  by_cases c2:16384 < S
  · rw [decide_eq_true c2] at h4
    have e3:subN a b = ([],2):=by unfold subN;rw [if_neg c1,if_pos (by omega)]
    rw [e3]
    clear h5 c1 c2 e1 e3 hR
    go_enter Tryz.func134,Tryz.ntmps134
    go_wp2_with fail
    refine h1.mono ?_;rintro e w' ⟨rfl,hw'⟩;obtain rfl:=hw'.symm
    go_wp2_with fail
    refine h2.mono ?_;rintro e w' ⟨rfl,hw'⟩;obtain rfl:=hw'.symm
    go_wp2_with fail
    refine h3.mono ?_;rintro e w1 ⟨rfl,k1⟩
    go_wp2_with fail
    refine (h4 _).mono ?_;rintro e w' ⟨rfl,rfl⟩
    go_wp2
    exact bodyPost_ret (v:=.tuple #[.slice none 0 0,.int .i64 2]) (by simp [results,Tryz.results134,go_sem] <;> simp only [*]) rfl ⟨_,rfl,Own.nil _ _,k1⟩
  rw [decide_eq_false c2] at h4
  have e3:subN a b = (dig (a - b),0):=by unfold subN;rw [if_neg c1,if_neg (by omega)]
  rw [e3]
  have h6:=h5 (by omega)
  clear h5 c1 c2 e1 e3 hR
  go_enter Tryz.func134,Tryz.ntmps134
  go_wp2_with fail
  refine h1.mono ?_;rintro e w' ⟨rfl,hw'⟩;obtain rfl:=hw'.symm
  go_wp2_with fail
  refine h2.mono ?_;rintro e w' ⟨rfl,hw'⟩;obtain rfl:=hw'.symm
  go_wp2_with fail
  refine h3.mono ?_;rintro e w1 ⟨rfl,k1⟩
  go_wp2_with fail
  refine (h4 _).mono ?_;rintro e w' ⟨rfl,rfl⟩
  go_wp2_with fail
  refine (h6 _ k1).mono ?_;rintro e w2 ⟨v,rfl,hO,k2⟩
  go_wp2
  exact bodyPost_ret (v:=.tuple #[v,.int .i64 0]) (by simp [results,Tryz.results134,go_sem] <;> simp only [*]) rfl ⟨_,rfl,hO.mono k1.size,k1.trans k2⟩
end Go.Proofs.YtfhcmabejagknaaGreatDoor
