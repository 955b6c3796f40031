import Derived.Test.YtnileplkkmhdgaaGreatDoorKBGn
set_option maxHeartbeats 1000000
set_option maxRecDepth 20000
namespace Go.Proofs.YtnileplkkmhdgaaGreatDoor
open Go.RowKit
theorem root_ints (bl b1 l l2:Nat) (hl:l = (bl - 1) / 4) (hb:b1 = bl - 1) (hl2:l2 = 2 * l) (hB:bl≤524288) (h0:1≤bl):wrap64 ((bl:Int) - 1) = (b1:Int)∧Int.tdiv (b1:Int) 4 = (l:Int)∧(b1:Int) / 4 = (l:Int)∧wrap64 (l:Int) = (l:Int)∧wrap64 (2 * (l:Int)) = (l2:Int)∧2 * (l:Int) = (l2:Int)∧l≤131072∧l2≤262144:=by
  refine ⟨?_,by rw [hl,hb];rfl,by omega,w64 _ (by omega) (by omega), ?_,by omega,by omega,by omega⟩
  · rw [show (bl:Int) - 1 = (b1:Int) from by omega];exact w64 _ (by omega) (by omega)
  · rw [show 2 * (l:Int) = (l2:Int) from by omega];exact w64 _ (by omega) (by omega)
theorem root_sizes (A P h m v t k N1 D q lf S R K:Nat) (hSm:A < 4294967296 ^ K) (hK:K≤16384) (b2:h≤A) (b3:t≤h) (b7:t * P≤A) (b8:k * P≤A) (hk:k≤h) (b5:m≤A) (b6:v≤A) (b4:A / P≤A) (hN1:N1 = k * P + m) (hD:D = 2 * t) (b9:q≤N1) (b10:lf < D) (b11:lf * P≤2 * A) (hS:S = t * P + q) (hR:R = lf * P + v) (h1:1≤A) :
    (dig (A)).length≤1048576∧(dig (A / P)).length≤1048576∧(dig (k)).length≤1048576∧(dig (k * P)).length≤1048576∧(dig (m)).length≤1048576∧(dig (N1)).length≤1048576∧(dig (D)).length≤1048576∧(dig (t)).length≤1048576∧(dig (t * P)).length≤1048576∧(dig (q)).length≤1048576∧(dig (lf)).length≤1048576∧(dig (lf * P)).length≤1048576∧(dig (v)).length≤1048576∧(dig (R)).length≤1048576∧(dig (S)).length≤1048576∧(dig (R + S)).length≤1048576∧(dig (S - 1)).length≤1048576∧(dig (R + S + (S - 1))).length≤1048576∧(dig (1)).length≤1048576:=by
  have z:∀ x,x≤16 * A→(dig x).length≤1048576:=fun x hx=>Nat.le_trans (sz hSm hK hx) (by omega)
  clear hSm hK
  exact ⟨z _ (by omega),z _ (by omega),z _ (by omega),z _ (by omega),z _ (by omega),z _ (by omega),z _ (by omega),z _ (by omega),z _ (by omega),z _ (by omega),z _ (by omega),z _ (by omega),z _ (by omega),z _ (by omega),z _ (by omega),z _ (by omega),z _ (by omega),z _ (by omega),z _ (by omega)⟩
theorem root_ (A:Nat):∀ (p:Option Addr) (c:Nat) (w:World),Arr w p (dig A)→(dig A).length≤c→(dig A).length≤16384 →
    Calls Tryz.prog 138 #[.slice p (dig A).length c] w fun e w'=>∃ v,e = .returned v∧Two w' w.heap.size (dig (rtN A)) (dig (A - rtN A * rtN A)) v∧Kp w w':=by
  induction A using Nat.strongRecOn with
  | ind A ih =>
  intro p c w hx hc0 lA
  by_cases c2:(dig A).length≤2
  · have h:=root2_ p c (dig A) w hx (Wd_dig A) c2
    rw [val_dig] at h
    exact h
  · obtain ⟨l,hl⟩:∃ l,l = (blen A - 1) / 4:=⟨_,rfl⟩
    have hw3:=words3 A (by omega)
    obtain ⟨q1,q2,q3⟩:=quarter A hw3
    rw [← hl] at q1 q2 q3
    obtain ⟨d1,d2⟩:=quarters A l q1
    have hSm:A < 4294967296 ^ len32 A:=len32_up A (len32 A) (Nat.le_refl _)
    have hK:len32 A≤16384:=lA
    have hB:blen A≤524288:=Nat.le_trans (blen_len A (len32 A) (Nat.le_refl _)) (by omega)
    have hP:0 < 2 ^ l:=Nat.pow_pos (by omega)
    have hP2:2≤2 ^ l:=by
      have:(2:Nat) ^ 1≤2 ^ l:=Nat.pow_le_pow_right (by omega) q2
      simpa using this
    obtain ⟨h,hh⟩:∃ h,h = A / 2 ^ (2 * l):=⟨_,rfl⟩
    obtain ⟨t,ht⟩:∃ t,t = rtN h:=⟨_,rfl⟩
    obtain ⟨k,hk0⟩:∃ k,k = h - t * t:=⟨_,rfl⟩
    obtain ⟨m,hm⟩:∃ m,m = A / 2 ^ l % 2 ^ l:=⟨_,rfl⟩
    obtain ⟨v,hv⟩:∃ v,v = A % 2 ^ l:=⟨_,rfl⟩
    obtain ⟨P,hPe⟩:∃ P,P = 2 ^ l:=⟨_,rfl⟩
    have b1:=half_le A l
    have b2:h≤A:=by rw [hh];exact Nat.div_le_self _ _
    have b3:t≤h:=by rw [ht];exact rt_le h
    have b4:A / 2 ^ l≤A:=Nat.div_le_self _ _
    have b5:m≤A / 2 ^ l:=by rw [hm];exact Nat.mod_le _ _
    have b6:v≤A:=by rw [hv];exact Nat.mod_le _ _
    have hhA:h < A:=by
      have h1:1≤2 * l:=by omega
      have h2:(2:Nat) ^ 1≤2 ^ (2 * l):=Nat.pow_le_pow_right (by omega) h1
      have h3:=words3 A (by omega)
      rw [hh]
      exact Nat.div_lt_self (by omega) (by omega)
    have o1:l / 32 < (dig (A / 2 ^ l)).length:=bits_words _ _ (blen_div A l q3)
    have o2:l / 32 < (dig A).length:=bits_words _ _ (by omega)
    have hrt:IsRt h t:=by rw [ht];exact rtN_is h
    rw [← hPe] at b1 d1 d2 b4 b5 hP hP2 o1 hm hv
    rw [← hm,← hv,← hh] at d1
    rw [← hh] at d2 b1
    have b7:t * P≤A:=Nat.le_trans (Nat.mul_le_mul_right P b3) b1
    have b8:k * P≤A:=Nat.le_trans (Nat.mul_le_mul_right P (by omega)) b1
    have hPt:P≤t:=by
      by_cases c:P≤t
      · exact c
      · exfalso
        have h1:=hrt.2
        have:=Nat.mul_le_mul (show t + 1≤P by omega) (show t + 1≤P by omega)
        omega
    obtain ⟨N1,hN1⟩:∃ N1,N1 = k * P + m:=⟨_,rfl⟩
    obtain ⟨D,hD⟩:∃ D,D = 2 * t:=⟨_,rfl⟩
    obtain ⟨q,hq⟩:∃ q,q = N1 / D:=⟨_,rfl⟩
    obtain ⟨lf,hlf⟩:∃ lf,lf = N1 % D:=⟨_,rfl⟩
    have b9:q≤N1:=by rw [hq];exact Nat.div_le_self _ _
    have b10:lf < D:=by rw [hlf];exact Nat.mod_lt _ (by omega)
    have b11:lf * P≤2 * A:=by
      have h1:lf * P≤D * P:=Nat.mul_le_mul_right P (by omega)
      rw [hD,Nat.mul_assoc] at h1
      omega
    obtain ⟨S,hS⟩:∃ S,S = t * P + q:=⟨_,rfl⟩
    obtain ⟨R,hR⟩:∃ R,R = lf * P + v:=⟨_,rfl⟩
    have hz:=zimm A P h m v t k q lf S R hP d1 (by rw [hm];exact Nat.mod_lt _ hP) (by rw [hv];exact Nat.mod_lt _ hP) d2 hrt hk0 (by rw [hq,hlf,← hD,← hN1,Nat.mul_comm];exact Nat.div_add_mod _ _) (by rw [← hD];exact b10) hS hR
    have Hz:Hid ((q * q≤R→IsRt A S∧R - q * q = A - S * S)∧(R < q * q→1≤S∧IsRt A (S - 1)∧q * q≤R + S + (S - 1)∧R + S + (S - 1) - q * q = A - (S - 1) * (S - 1))):=hz
    clear hz
    have s1:(dig A).length≤1048576:=by omega
    have s2:(dig h).length≤16384:=Nat.le_trans (len32_mono b2) lA
    have z:∀ x,x≤16 * A→(dig x).length≤1048576:=fun x hx=>Nat.le_trans (sz hSm hK hx) (by omega)
    have sqq:(dig (q * q)).length≤1048576:=by
      have e1:len32 q≤16385:=sz hSm hK (by omega)
      have e2:=mul_len q q 16385 e1 e1
      have e3:(dig (q * q)).length = len32 (q * q):=rfl
      omega
    have hih:=ih h hhA
    have hln:=nlen_ p c (dig A) w hx (Wd_dig A) (by omega) hc0
    rw [val_dig] at hln
    rw [← ht,← hk0] at hih
    obtain ⟨bl,hbl⟩:∃ bl,bl = blen A:=⟨_,rfl⟩
    obtain ⟨b1',hb1'⟩:∃ b1',b1' = bl - 1:=⟨_,rfl⟩
    obtain ⟨l2,hl2⟩:∃ l2,l2 = 2 * l:=⟨_,rfl⟩
    rw [← hbl] at hln hB q3 hl
    obtain ⟨N,hN⟩:∃ N,N = (dig A).length:=⟨_,rfl⟩
    obtain ⟨f1,f2,f2b,f2c,f3,f4,lb,lb2⟩:=root_ints bl b1' l l2 hl hb1' hl2 hB (Nat.lt_of_le_of_lt (Nat.zero_le _) q3)
    have t0:¬ (N≤2):=by rw [hN];exact c2
    have t1:¬ ((N:Int)≤2):=fun e=>t0 (Int.ofNat_le.1 e)
    have ha:Hid (LsN w (.slice p N c) (dig A)):=⟨p,c,by rw [hN],hx,hc0⟩
    rw [← hN] at hln ⊢
    have HK:Hid (Kp w w):=Kp.refl w
    have zA:=root_sizes A P h m v t k N1 D q lf S R (len32 A) hSm hK b2 b3 b7 b8 (by rw [hk0];exact Nat.sub_le _ _) (Nat.le_trans b5 b4) b6 b4 hN1 hD b9 b10 b11 hS hR (Nat.le_trans (by decide) hw3)
    have HZ:Hid (_∧(dig (q * q)).length≤1048576):=⟨zA,sqq⟩
    have HE:Hid (h = A / 2 ^ l2∧P = 2 ^ l∧m = A / P % P∧v = A % P∧N1 = k * P + m∧D = t * 2 ^ 1∧q = N1 / D∧lf = N1 % D∧S = t * P + q∧R = lf * P + v∧l / 32 < (dig (A / P)).length∧l / 32 < (dig A).length∧0 < D∧(dig h).length≤16384∧l≤131072∧l2≤262144):=⟨by rw [hl2];exact hh,hPe,hm,hv,hN1,by rw [hD,Nat.pow_one,Nat.mul_comm],hq,hlf,hS,hR,o1,o2,by rw [hD];exact Nat.mul_pos (by decide) (Nat.lt_of_lt_of_le hP hPt),s2,lb,lb2⟩
    clear hx hc0 lA c2 hl q1 q2 q3 d1 d2 hSm hK hB hP hP2 hh ht hk0 hm hv hPe b1 b2 b3 b4 b5 b6 b7 b8 hhA o1 o2 hrt hPt hN1 hD hq hlf b9 b10 b11 hS hR s1 s2 z sqq hbl hb1' hl2 hN zA ih t0 lb2 hw3
    go_enter Tryz.func138,Tryz.ntmps138
    go_wp2_with fail
    refine hln.mono ?_;rintro e w' ⟨rfl,hw'⟩;obtain rfl:=hw'.symm;clear hln
    have hc:=loweredB (.slice p N c) A l2 w ha.out HZ.out.1.1 (by have:=HE.out.2.2.2.2.2.2.2.2.2.2.2.2.2.2.2;omega)
    go_wp2_with fail
    refine hc.mono ?_
    rintro e w1 ⟨vlo,rfl,hn,hk⟩
    clear hc
    replace ha:Hid (LsN w1 (.slice p N c) (dig (A))):=ha.out.kp hk
    have hlo:Hid (LsN w1 vlo (dig (A / 2 ^ l2))):=hn.lsN
    replace HK:Hid (Kp w w1):=HK.out.trans hk
    clear hk hn
    replace hlo:Hid (LsN w1 vlo (dig (h))):=by have h9:=hlo.out;rw [← HE.out.1] at h9;exact h9
    obtain ⟨plo,clo,rfl,hAlo,hclo⟩:=hlo.out
    have hc:=hih plo clo w1 hAlo hclo HE.out.2.2.2.2.2.2.2.2.2.2.2.2.2.1
    obtain ⟨Nh,hNh⟩:∃ Nh,Nh = (dig h).length:=⟨_,rfl⟩
    rw [← hNh] at hc ⊢
    clear hAlo hclo hih hlo hNh
    go_wp2_with fail
    refine hc.mono ?_
    rintro e w2 ⟨vv,rfl,⟨p1,c1,p2,c2,rfl,hO1,hO2,_⟩,hk⟩
    clear hc
    have ht9:=hO1.lsN
    have hk9:=hO2.lsN
    obtain ⟨vt,hvt⟩:∃ vt,vt = Value.slice p1 (dig t).length c1:=⟨_,rfl⟩
    obtain ⟨vk,hvk⟩:∃ vk,vk = Value.slice p2 (dig k).length c2:=⟨_,rfl⟩
    rw [← hvt] at ht9 ⊢
    rw [← hvk] at hk9 ⊢
    replace ha:Hid (LsN w2 (.slice p N c) (dig A)):=ha.out.kp hk
    have ht:Hid (LsN w2 vt (dig t)):=ht9
    have hkk:Hid (LsN w2 vk (dig k)):=hk9
    replace HK:Hid (Kp w w2):=HK.out.trans hk
    clear hO1 hO2 ht9 hk9 hvt hvk hk
    have hc:=raisedB vk k l w2 hkk.out HZ.out.1.2.2.1 (by have:=HE.out.2.2.2.2.2.2.2.2.2.2.2.2.2.2.1;omega)
    go_wp2_with fail
    refine hc.mono ?_
    rintro e w3 ⟨vkp,rfl,hn,hk⟩
    clear hc
    replace ha:Hid (LsN w3 (.slice p N c) (dig (A))):=ha.out.kp hk
    replace ht:Hid (LsN w3 vt (dig (t))):=ht.out.kp hk
    replace hkk:Hid (LsN w3 vk (dig (k))):=hkk.out.kp hk
    have hkp:Hid (LsN w3 vkp (dig (k * 2 ^ l))):=hn.lsN
    replace HK:Hid (Kp w w3):=HK.out.trans hk
    clear hk hn
    replace hkp:Hid (LsN w3 vkp (dig (k * P))):=by have h9:=hkp.out;rw [← HE.out.2.1] at h9;exact h9
    have hc:=loweredB (.slice p N c) A l w3 ha.out HZ.out.1.1 (by have:=HE.out.2.2.2.2.2.2.2.2.2.2.2.2.2.2.1;omega)
    go_wp2_with fail
    refine hc.mono ?_
    rintro e w4 ⟨val,rfl,hn,hk⟩
    clear hc
    replace ha:Hid (LsN w4 (.slice p N c) (dig (A))):=ha.out.kp hk
    replace ht:Hid (LsN w4 vt (dig (t))):=ht.out.kp hk
    replace hkk:Hid (LsN w4 vk (dig (k))):=hkk.out.kp hk
    replace hkp:Hid (LsN w4 vkp (dig (k * P))):=hkp.out.kp hk
    have hal:Hid (LsN w4 val (dig (A / 2 ^ l))):=hn.lsN
    replace HK:Hid (Kp w w4):=HK.out.trans hk
    clear hk hn
    replace hal:Hid (LsN w4 val (dig (A / P))):=by have h9:=hal.out;rw [← HE.out.2.1] at h9;exact h9
    have hc:=remB val (A / P) l w4 hal.out HZ.out.1.2.1 HE.out.2.2.2.2.2.2.2.2.2.2.1
    go_wp2_with fail
    refine hc.mono ?_
    rintro e w5 ⟨vm,rfl,hn,hk⟩
    clear hc
    replace ha:Hid (LsN w5 (.slice p N c) (dig (A))):=ha.out.kp hk
    replace ht:Hid (LsN w5 vt (dig (t))):=ht.out.kp hk
    replace hkk:Hid (LsN w5 vk (dig (k))):=hkk.out.kp hk
    replace hkp:Hid (LsN w5 vkp (dig (k * P))):=hkp.out.kp hk
    replace hal:Hid (LsN w5 val (dig (A / P))):=hal.out.kp hk
    have hm:Hid (LsN w5 vm (dig (A / P % 2 ^ l))):=hn.lsN
    replace HK:Hid (Kp w w5):=HK.out.trans hk
    clear hk hn
    replace hm:Hid (LsN w5 vm (dig (m))):=by have h9:=hm.out;rw [← HE.out.2.1,← HE.out.2.2.1] at h9;exact h9
    have hc:=sumB vkp vm (k * P) m w5 hkp.out hm.out HZ.out.1.2.2.2.1 HZ.out.1.2.2.2.2.1
    go_wp2_with fail
    refine hc.mono ?_
    rintro e w6 ⟨vn1,rfl,hn,hk⟩
    clear hc
    replace ha:Hid (LsN w6 (.slice p N c) (dig (A))):=ha.out.kp hk
    replace ht:Hid (LsN w6 vt (dig (t))):=ht.out.kp hk
    replace hkk:Hid (LsN w6 vk (dig (k))):=hkk.out.kp hk
    replace hkp:Hid (LsN w6 vkp (dig (k * P))):=hkp.out.kp hk
    replace hal:Hid (LsN w6 val (dig (A / P))):=hal.out.kp hk
    replace hm:Hid (LsN w6 vm (dig (m))):=hm.out.kp hk
    have hn1:Hid (LsN w6 vn1 (dig (k * P + m))):=hn.lsN
    replace HK:Hid (Kp w w6):=HK.out.trans hk
    clear hk hn
    replace hn1:Hid (LsN w6 vn1 (dig (N1))):=by have h9:=hn1.out;rw [← HE.out.2.2.2.2.1] at h9;exact h9
    have hc:=raisedB vt t 1 w6 ht.out HZ.out.1.2.2.2.2.2.2.2.1 (by omega)
    go_wp2_with fail
    refine hc.mono ?_
    rintro e w7 ⟨vd,rfl,hn,hk⟩
    clear hc
    replace ha:Hid (LsN w7 (.slice p N c) (dig (A))):=ha.out.kp hk
    replace ht:Hid (LsN w7 vt (dig (t))):=ht.out.kp hk
    replace hkk:Hid (LsN w7 vk (dig (k))):=hkk.out.kp hk
    replace hkp:Hid (LsN w7 vkp (dig (k * P))):=hkp.out.kp hk
    replace hal:Hid (LsN w7 val (dig (A / P))):=hal.out.kp hk
    replace hm:Hid (LsN w7 vm (dig (m))):=hm.out.kp hk
    replace hn1:Hid (LsN w7 vn1 (dig (N1))):=hn1.out.kp hk
    have hd:Hid (LsN w7 vd (dig (t * 2 ^ 1))):=hn.lsN
    replace HK:Hid (Kp w w7):=HK.out.trans hk
    clear hk hn
    replace hd:Hid (LsN w7 vd (dig (D))):=by have h9:=hd.out;rw [← HE.out.2.2.2.2.2.1] at h9;exact h9
    have hc:=quoB vn1 vd N1 D w7 hn1.out hd.out HZ.out.1.2.2.2.2.2.1 HZ.out.1.2.2.2.2.2.2.1 HE.out.2.2.2.2.2.2.2.2.2.2.2.2.1
    go_wp2_with fail
    refine hc.mono ?_
    rintro e w8 ⟨vq,vlf,rfl,hnA,hnB,hk⟩
    clear hc
    replace ha:Hid (LsN w8 (.slice p N c) (dig (A))):=ha.out.kp hk
    replace ht:Hid (LsN w8 vt (dig (t))):=ht.out.kp hk
    replace hkk:Hid (LsN w8 vk (dig (k))):=hkk.out.kp hk
    replace hkp:Hid (LsN w8 vkp (dig (k * P))):=hkp.out.kp hk
    replace hal:Hid (LsN w8 val (dig (A / P))):=hal.out.kp hk
    replace hm:Hid (LsN w8 vm (dig (m))):=hm.out.kp hk
    replace hn1:Hid (LsN w8 vn1 (dig (N1))):=hn1.out.kp hk
    replace hd:Hid (LsN w8 vd (dig (D))):=hd.out.kp hk
    have hq:Hid (LsN w8 vq (dig (N1 / D))):=hnA
    have hlf:Hid (LsN w8 vlf (dig (N1 % D))):=hnB
    replace HK:Hid (Kp w w8):=HK.out.trans hk
    clear hk hnA hnB
    replace hq:Hid (LsN w8 vq (dig (q))):=by have h9:=hq.out;rw [← HE.out.2.2.2.2.2.2.1] at h9;exact h9
    replace hlf:Hid (LsN w8 vlf (dig (lf))):=by have h9:=hlf.out;rw [← HE.out.2.2.2.2.2.2.2.1] at h9;exact h9
    clear hkk
    clear hkp
    clear hal
    clear hm
    clear hn1
    clear hd
    have hc:=raisedB vt t l w8 ht.out HZ.out.1.2.2.2.2.2.2.2.1 (by have:=HE.out.2.2.2.2.2.2.2.2.2.2.2.2.2.2.1;omega)
    go_wp2_with fail
    refine hc.mono ?_
    rintro e w9 ⟨vtp,rfl,hn,hk⟩
    clear hc
    replace ha:Hid (LsN w9 (.slice p N c) (dig (A))):=ha.out.kp hk
    replace ht:Hid (LsN w9 vt (dig (t))):=ht.out.kp hk
    replace hq:Hid (LsN w9 vq (dig (q))):=hq.out.kp hk
    replace hlf:Hid (LsN w9 vlf (dig (lf))):=hlf.out.kp hk
    have htp:Hid (LsN w9 vtp (dig (t * 2 ^ l))):=hn.lsN
    replace HK:Hid (Kp w w9):=HK.out.trans hk
    clear hk hn
    replace htp:Hid (LsN w9 vtp (dig (t * P))):=by have h9:=htp.out;rw [← HE.out.2.1] at h9;exact h9
    have hc:=sumB vtp vq (t * P) q w9 htp.out hq.out HZ.out.1.2.2.2.2.2.2.2.2.1 HZ.out.1.2.2.2.2.2.2.2.2.2.1
    go_wp2_with fail
    refine hc.mono ?_
    rintro e w10 ⟨vs,rfl,hn,hk⟩
    clear hc
    replace ha:Hid (LsN w10 (.slice p N c) (dig (A))):=ha.out.kp hk
    replace ht:Hid (LsN w10 vt (dig (t))):=ht.out.kp hk
    replace hq:Hid (LsN w10 vq (dig (q))):=hq.out.kp hk
    replace hlf:Hid (LsN w10 vlf (dig (lf))):=hlf.out.kp hk
    replace htp:Hid (LsN w10 vtp (dig (t * P))):=htp.out.kp hk
    have hs:Hid (LsN w10 vs (dig (t * P + q))):=hn.lsN
    have Os:Hid (Own w10 w.heap.size vs (dig (t * P + q))):=hn.mono HK.out.size
    replace HK:Hid (Kp w w10):=HK.out.trans hk
    clear hk hn
    replace hs:Hid (LsN w10 vs (dig (S))):=by have h9:=hs.out;rw [← HE.out.2.2.2.2.2.2.2.2.1] at h9;exact h9
    replace Os:Hid (Own w10 w.heap.size vs (dig (S))):=by have h9:=Os.out;rw [← HE.out.2.2.2.2.2.2.2.2.1] at h9;exact h9
    have hc:=raisedB vlf lf l w10 hlf.out HZ.out.1.2.2.2.2.2.2.2.2.2.2.1 (by have:=HE.out.2.2.2.2.2.2.2.2.2.2.2.2.2.2.1;omega)
    go_wp2_with fail
    refine hc.mono ?_
    rintro e w11 ⟨vlp,rfl,hn,hk⟩
    clear hc
    replace ha:Hid (LsN w11 (.slice p N c) (dig (A))):=ha.out.kp hk
    replace ht:Hid (LsN w11 vt (dig (t))):=ht.out.kp hk
    replace hq:Hid (LsN w11 vq (dig (q))):=hq.out.kp hk
    replace hlf:Hid (LsN w11 vlf (dig (lf))):=hlf.out.kp hk
    replace htp:Hid (LsN w11 vtp (dig (t * P))):=htp.out.kp hk
    replace hs:Hid (LsN w11 vs (dig (S))):=hs.out.kp hk
    replace Os:Hid (Own w11 w.heap.size vs (dig (S))):=Os.out.kp hk
    have hlp:Hid (LsN w11 vlp (dig (lf * 2 ^ l))):=hn.lsN
    replace HK:Hid (Kp w w11):=HK.out.trans hk
    clear hk hn
    replace hlp:Hid (LsN w11 vlp (dig (lf * P))):=by have h9:=hlp.out;rw [← HE.out.2.1] at h9;exact h9
    have hc:=remB (.slice p N c) A l w11 ha.out HZ.out.1.1 HE.out.2.2.2.2.2.2.2.2.2.2.2.1
    go_wp2_with fail
    refine hc.mono ?_
    rintro e w12 ⟨vv,rfl,hn,hk⟩
    clear hc
    replace ha:Hid (LsN w12 (.slice p N c) (dig (A))):=ha.out.kp hk
    replace ht:Hid (LsN w12 vt (dig (t))):=ht.out.kp hk
    replace hq:Hid (LsN w12 vq (dig (q))):=hq.out.kp hk
    replace hlf:Hid (LsN w12 vlf (dig (lf))):=hlf.out.kp hk
    replace htp:Hid (LsN w12 vtp (dig (t * P))):=htp.out.kp hk
    replace hs:Hid (LsN w12 vs (dig (S))):=hs.out.kp hk
    replace hlp:Hid (LsN w12 vlp (dig (lf * P))):=hlp.out.kp hk
    replace Os:Hid (Own w12 w.heap.size vs (dig (S))):=Os.out.kp hk
    have hv:Hid (LsN w12 vv (dig (A % 2 ^ l))):=hn.lsN
    replace HK:Hid (Kp w w12):=HK.out.trans hk
    clear hk hn
    replace hv:Hid (LsN w12 vv (dig (v))):=by have h9:=hv.out;rw [← HE.out.2.1,← HE.out.2.2.2.1] at h9;exact h9
    have hc:=sumB vlp vv (lf * P) v w12 hlp.out hv.out HZ.out.1.2.2.2.2.2.2.2.2.2.2.2.1 HZ.out.1.2.2.2.2.2.2.2.2.2.2.2.2.1
    go_wp2_with fail
    refine hc.mono ?_
    rintro e w13 ⟨vr,rfl,hn,hk⟩
    clear hc
    replace ha:Hid (LsN w13 (.slice p N c) (dig (A))):=ha.out.kp hk
    replace ht:Hid (LsN w13 vt (dig (t))):=ht.out.kp hk
    replace hq:Hid (LsN w13 vq (dig (q))):=hq.out.kp hk
    replace hlf:Hid (LsN w13 vlf (dig (lf))):=hlf.out.kp hk
    replace htp:Hid (LsN w13 vtp (dig (t * P))):=htp.out.kp hk
    replace hs:Hid (LsN w13 vs (dig (S))):=hs.out.kp hk
    replace hlp:Hid (LsN w13 vlp (dig (lf * P))):=hlp.out.kp hk
    replace hv:Hid (LsN w13 vv (dig (v))):=hv.out.kp hk
    replace Os:Hid (Own w13 w.heap.size vs (dig (S))):=Os.out.kp hk
    have hr:Hid (LsN w13 vr (dig (lf * P + v))):=hn.lsN
    replace HK:Hid (Kp w w13):=HK.out.trans hk
    clear hk hn
    replace hr:Hid (LsN w13 vr (dig (R))):=by have h9:=hr.out;rw [← HE.out.2.2.2.2.2.2.2.2.2.1] at h9;exact h9
    have hc:=prodB vq vq q q w13 hq.out hq.out HZ.out.1.2.2.2.2.2.2.2.2.2.1 HZ.out.1.2.2.2.2.2.2.2.2.2.1
    go_wp2_with fail
    refine hc.mono ?_
    rintro e w14 ⟨vqq,rfl,hn,hk⟩
    clear hc
    replace ha:Hid (LsN w14 (.slice p N c) (dig (A))):=ha.out.kp hk
    replace ht:Hid (LsN w14 vt (dig (t))):=ht.out.kp hk
    replace hq:Hid (LsN w14 vq (dig (q))):=hq.out.kp hk
    replace hlf:Hid (LsN w14 vlf (dig (lf))):=hlf.out.kp hk
    replace htp:Hid (LsN w14 vtp (dig (t * P))):=htp.out.kp hk
    replace hs:Hid (LsN w14 vs (dig (S))):=hs.out.kp hk
    replace hlp:Hid (LsN w14 vlp (dig (lf * P))):=hlp.out.kp hk
    replace hv:Hid (LsN w14 vv (dig (v))):=hv.out.kp hk
    replace hr:Hid (LsN w14 vr (dig (R))):=hr.out.kp hk
    replace Os:Hid (Own w14 w.heap.size vs (dig (S))):=Os.out.kp hk
    have hqq:Hid (LsN w14 vqq (dig (q * q))):=hn.lsN
    replace HK:Hid (Kp w w14):=HK.out.trans hk
    clear hk hn
    clear ha
    clear ht
    clear hq
    clear hlf
    clear htp
    clear hlp
    clear hv
    obtain ⟨cc,hcc⟩:∃ cc,cc = cmpN R (q * q):=⟨_,rfl⟩
    have hc:=cmpB vr vqq R (q * q) w14 hr.out hqq.out HZ.out.1.2.2.2.2.2.2.2.2.2.2.2.2.2.1 HZ.out.2
    rw [← hcc] at hc
    have HC:Hid (cc = cmpN R (q * q)):=hcc
    clear hcc
    by_cases cr:R < q * q
    · have t3:cc < 0:=by rw [HC.out,cmpN_lt cr];omega
      have HX:Hid (1≤S∧IsRt A (S - 1)∧q * q≤R + S + (S - 1)∧R + S + (S - 1) - q * q = A - (S - 1) * (S - 1)):=Hz.out.2 cr
      clear HC Hz cr
      go_wp2_with fail
      refine hc.mono ?_
      rintro e w15 ⟨rfl,hk⟩
      clear hc
      replace hs:Hid (LsN w15 vs (dig (S))):=hs.out.kp hk
      replace hr:Hid (LsN w15 vr (dig (R))):=hr.out.kp hk
      replace hqq:Hid (LsN w15 vqq (dig (q * q))):=hqq.out.kp hk
      replace Os:Hid (Own w15 w.heap.size vs (dig (S))):=Os.out.kp hk
      replace HK:Hid (Kp w w15):=HK.out.trans hk
      clear hk
      have hc:=sumB vr vs R S w15 hr.out hs.out HZ.out.1.2.2.2.2.2.2.2.2.2.2.2.2.2.1 HZ.out.1.2.2.2.2.2.2.2.2.2.2.2.2.2.2.1
      go_wp2_with fail
      refine hc.mono ?_
      rintro e w16 ⟨vr2,rfl,hn,hk⟩
      clear hc
      replace hs:Hid (LsN w16 vs (dig (S))):=hs.out.kp hk
      replace hr:Hid (LsN w16 vr (dig (R))):=hr.out.kp hk
      replace hqq:Hid (LsN w16 vqq (dig (q * q))):=hqq.out.kp hk
      replace Os:Hid (Own w16 w.heap.size vs (dig (S))):=Os.out.kp hk
      have hr2:Hid (LsN w16 vr2 (dig (R + S))):=hn.lsN
      replace HK:Hid (Kp w w16):=HK.out.trans hk
      clear hk
      clear hn
      have hc:=nsmall_ 1 (by omega) w16
      go_wp2_with fail
      refine hc.mono ?_
      rintro e w17 ⟨vo,rfl,hn,hk⟩
      clear hc
      replace hs:Hid (LsN w17 vs (dig (S))):=hs.out.kp hk
      replace hr:Hid (LsN w17 vr (dig (R))):=hr.out.kp hk
      replace hqq:Hid (LsN w17 vqq (dig (q * q))):=hqq.out.kp hk
      replace hr2:Hid (LsN w17 vr2 (dig (R + S))):=hr2.out.kp hk
      clear Os
      have ho:Hid (LsN w17 vo (dig 1)):=hn.lsN
      replace HK:Hid (Kp w w17):=HK.out.trans hk
      clear hk hn
      have hc:=diffB vs vo S 1 w17 hs.out ho.out HZ.out.1.2.2.2.2.2.2.2.2.2.2.2.2.2.2.1 HZ.out.1.2.2.2.2.2.2.2.2.2.2.2.2.2.2.2.2.2.2 HX.out.1
      go_wp2_with fail
      refine hc.mono ?_
      rintro e w18 ⟨vs2,rfl,hn,hk⟩
      clear hc
      replace hs:Hid (LsN w18 vs (dig (S))):=hs.out.kp hk
      replace hr:Hid (LsN w18 vr (dig (R))):=hr.out.kp hk
      replace hqq:Hid (LsN w18 vqq (dig (q * q))):=hqq.out.kp hk
      replace hr2:Hid (LsN w18 vr2 (dig (R + S))):=hr2.out.kp hk
      replace ho:Hid (LsN w18 vo (dig (1))):=ho.out.kp hk
      have hs2:Hid (LsN w18 vs2 (dig (S - 1))):=hn.lsN
      have Os2:Hid (Own w18 w.heap.size vs2 (dig (S - 1))):=hn.mono HK.out.size
      replace HK:Hid (Kp w w18):=HK.out.trans hk
      clear hk
      clear hn
      have hc:=sumB vr2 vs2 (R + S) (S - 1) w18 hr2.out hs2.out HZ.out.1.2.2.2.2.2.2.2.2.2.2.2.2.2.2.2.1 HZ.out.1.2.2.2.2.2.2.2.2.2.2.2.2.2.2.2.2.1
      go_wp2_with fail
      refine hc.mono ?_
      rintro e w19 ⟨vr3,rfl,hn,hk⟩
      clear hc
      replace hs:Hid (LsN w19 vs (dig (S))):=hs.out.kp hk
      replace hr:Hid (LsN w19 vr (dig (R))):=hr.out.kp hk
      replace hqq:Hid (LsN w19 vqq (dig (q * q))):=hqq.out.kp hk
      replace hr2:Hid (LsN w19 vr2 (dig (R + S))):=hr2.out.kp hk
      replace ho:Hid (LsN w19 vo (dig (1))):=ho.out.kp hk
      replace hs2:Hid (LsN w19 vs2 (dig (S - 1))):=hs2.out.kp hk
      replace Os2:Hid (Own w19 w.heap.size vs2 (dig (S - 1))):=Os2.out.kp hk
      have hr3:Hid (LsN w19 vr3 (dig (R + S + (S - 1)))):=hn.lsN
      replace HK:Hid (Kp w w19):=HK.out.trans hk
      clear hk
      clear hn
      have hc:=diffB vr3 vqq (R + S + (S - 1)) (q * q) w19 hr3.out hqq.out HZ.out.1.2.2.2.2.2.2.2.2.2.2.2.2.2.2.2.2.2.1 HZ.out.2 HX.out.2.2.1
      go_wp2_with fail
      refine hc.mono ?_
      rintro e wz ⟨vz,rfl,hn,hk⟩
      clear hc
      obtain ⟨ps,cs,hse,hps⟩:=Os2.out.len
      obtain ⟨pz,cz,hze,hpz⟩:=hn.len
      have hTwo:Two wz w.heap.size (dig (S - 1)) (dig (R + S + (S - 1) - q * q)) (.tuple #[vs2,vz]):=by
        refine ⟨ps,cs,pz,cz,by rw [hse,hze],by rw [← hse];exact Os2.out.kp hk,by rw [← hze];exact hn.mono HK.out.size,fun g e e2=>?_⟩
        subst e e2
        have a1:=Os2.out
        rw [hse] at a1
        rw [hze] at hn
        have a2:=a1.above.2
        have a3:=hn.above.1
        omega
      have HY:Hid (Two wz w.heap.size (dig (rtN A)) (dig (A - rtN A * rtN A)) (.tuple #[vs2,vz])∧Kp w wz):=by
        have hi:IsRt A (S - 1)∧R + S + (S - 1) - q * q = A - (S - 1) * (S - 1):=⟨HX.out.2.1,HX.out.2.2.2⟩
        rw [← hi.1.eq,← hi.2]
        exact ⟨hTwo,HK.out.trans hk⟩
      clear hn hk hTwo hse hze hps hpz
      go_wp2
      exact bodyPost_ret (v:=.tuple #[vs2,vz]) (by simp [results,Tryz.results138,go_sem]) rfl ⟨_,rfl,HY.out.1,HY.out.2⟩
    · have t3:¬ (cc < 0):=by rw [HC.out];unfold cmpN;rw [if_neg cr];split <;> omega
      have HX:Hid (IsRt A S∧R - q * q = A - S * S):=Hz.out.1 (by omega)
      have cr:Hid (¬ R < q * q):=cr
      clear HC Hz
      go_wp2_with fail
      refine hc.mono ?_
      rintro e w15 ⟨rfl,hk⟩
      clear hc
      replace hs:Hid (LsN w15 vs (dig (S))):=hs.out.kp hk
      replace hr:Hid (LsN w15 vr (dig (R))):=hr.out.kp hk
      replace hqq:Hid (LsN w15 vqq (dig (q * q))):=hqq.out.kp hk
      replace Os:Hid (Own w15 w.heap.size vs (dig (S))):=Os.out.kp hk
      replace HK:Hid (Kp w w15):=HK.out.trans hk
      clear hk
      have hc:=diffB vr vqq (R) (q * q) w15 hr.out hqq.out HZ.out.1.2.2.2.2.2.2.2.2.2.2.2.2.2.1 HZ.out.2 (Nat.le_of_not_lt cr.out)
      go_wp2_with fail
      refine hc.mono ?_
      rintro e wz ⟨vz,rfl,hn,hk⟩
      clear hc
      obtain ⟨ps,cs,hse,hps⟩:=Os.out.len
      obtain ⟨pz,cz,hze,hpz⟩:=hn.len
      have hTwo:Two wz w.heap.size (dig (S)) (dig (R - q * q)) (.tuple #[vs,vz]):=by
        refine ⟨ps,cs,pz,cz,by rw [hse,hze],by rw [← hse];exact Os.out.kp hk,by rw [← hze];exact hn.mono HK.out.size,fun g e e2=>?_⟩
        subst e e2
        have a1:=Os.out
        rw [hse] at a1
        rw [hze] at hn
        have a2:=a1.above.2
        have a3:=hn.above.1
        omega
      have HY:Hid (Two wz w.heap.size (dig (rtN A)) (dig (A - rtN A * rtN A)) (.tuple #[vs,vz])∧Kp w wz):=by
        have hi:IsRt A (S)∧R - q * q = A - (S) * (S):=HX.out
        rw [← hi.1.eq,← hi.2]
        exact ⟨hTwo,HK.out.trans hk⟩
      clear hn hk hTwo hse hze hps hpz
      go_wp2
      exact bodyPost_ret (v:=.tuple #[vs,vz]) (by simp [results,Tryz.results138,go_sem]) rfl ⟨_,rfl,HY.out.1,HY.out.2⟩
end Go.Proofs.YtnileplkkmhdgaaGreatDoor
