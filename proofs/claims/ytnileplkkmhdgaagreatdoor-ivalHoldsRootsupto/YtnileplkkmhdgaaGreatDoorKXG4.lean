import Derived.Test.YtnileplkkmhdgaaGreatDoorKBY
import Derived.Deep.DeepCutAuto
set_option maxHeartbeats 1000000
set_option maxRecDepth 20000
namespace Go.Proofs.YtnileplkkmhdgaaGreatDoor
open Go.RowKit
theorem normO (v:Value) (L:List Int) (w:World) (h:Ls w v L) (hw:Wd L) (l:L.length≤1048576) :
    Calls Tryz.prog 45 #[v] w fun e w'=>∃ v',e = .returned v'∧Own w' w.heap.size v' (dig (val L))∧Kp w w':=by
  obtain ⟨p,c,rfl,hA,hc⟩:=h
  have h:=rnorm_ p c L w hA (by omega)
  rw [nz_dig L hw] at h
  exact h
theorem zerosR (v:Value) (a:Nat) (w:World) (h:Ls w v (dig a)) (l:blen a≤33554432) :
    Calls Tryz.prog 53 #[v] w fun e w'=>e = .returned (.int .i64 (ctz a:Nat))∧w' = w:=by
  obtain ⟨p,c,rfl,hA,hc⟩:=h
  have e1:=dlen a 1048576 (by omega)
  have h:=rzeros_ p c (dig a) w hA (Wd_dig a) (by omega)
  rw [val_dig] at h
  exact h
theorem rightO (v:Value) (a m:Nat) (w:World) (h:Ls w v (dig a)) (l:blen a≤33554432) (hm:m≤33554432) :
    Calls Tryz.prog 54 #[v,.int .i64 (m:Int)] w fun e w'=>∃ v' b,e = .returned (.tuple #[v',.bool b])∧Own w' w.heap.size v' (dig (a / 2 ^ m))∧Kp w w':=by
  obtain ⟨p,c,rfl,hA,hc⟩:=h
  have e1:=dlen a 1048576 (by omega)
  have h:=rright_ p c m (dig a) w hA (Wd_dig a) (by omega) (by omega)
  rw [val_dig] at h
  exact h.mono fun e w' ⟨v,h1,h2,h3⟩=>⟨v,_,h1,h2,h3⟩
theorem leftO (v:Value) (a m:Nat) (w:World) (h:Ls w v (dig a)) (l:blen a≤16777216) (hm:m≤16777216) :
    Calls Tryz.prog 55 #[v,.int .i64 (m:Int)] w fun e w'=>∃ v',e = .returned v'∧Own w' w.heap.size v' (dig (a * 2 ^ m))∧Kp w w':=by
  obtain ⟨p,c,rfl,hA,hc⟩:=h
  have h:=rleft_ p c m (dig a) w hA (Wd_dig a) (Nat.le_trans (dlen a 524288 (by omega)) (by omega)) hm
  rw [val_dig] at h
  exact h
theorem frac_ (neg:Bool) (vn vd:Value) (Ln Ld:List Int) (exp:Int) (w:World) (hn:Ls w vn Ln) (hd:Ls w vd Ld) (hwn:Wd Ln) (hwd:Wd Ld) (ln:Ln.length≤32768) (ld:Ld.length≤32768) (hb:val Ld≠0) (he:exp.natAbs≤1048576) :
    Calls Tryz.prog 27 #[.bool neg,vn,vd,.int .i64 exp] w fun e w'=>∃ (vn' vd':Value) (a' b':Nat) (ng:Bool),e = .returned (.agg #[.bool ng,vn',vd'])∧Own w' w.heap.size vn' (dig a')∧Own w' w.heap.size vd' (dig b')∧(FracOf (val Ln) (val Ld) exp a' b'∧(val Ln≠0→ng = neg))∧Kp w w':=by
  obtain ⟨w0,hw0⟩:∃ w0,w0 = w.alloc (.cells #[.bool false,.slice none 0 0,.slice none 0 0] 27):=⟨_,rfl⟩
  have hk0:Kp w w0:=by rw [hw0];exact (Kp.refl w).alloc _
  obtain ⟨a,ha⟩:∃ a,a = val Ln:=⟨_,rfl⟩
  obtain ⟨b,hb9⟩:∃ b,b = val Ld:=⟨_,rfl⟩
  have hc:=normO vn Ln w0 (hn.kp hk0) hwn (by omega)
  have hc2:=fun w' (k:Kp w0 w')=>normO vd Ld w' ((hd.kp hk0).kp k) hwd (by omega)
  have la:blen a≤1048576:=by
    have:=blen_len a Ln.length (by rw [ha,← tl_len Ln hwn];exact tl_le Ln)
    omega
  have lb:blen b≤1048576:=by
    have:=blen_len b Ld.length (by rw [hb9,← tl_len Ld hwd];exact tl_le Ld)
    omega
  rw [← ha] at hc
  rw [← hb9] at hc2 hb
  rw [← ha,← hb9]
  have HLA:Hid (blen a≤1048576∧blen b≤1048576∧b≠0∧exp.natAbs≤1048576):=⟨la,lb,hb,he⟩
  have Hw0:Hid (w0 = w.alloc (.cells #[.bool false,.slice none 0 0,.slice none 0 0] 27)):=hw0
  clear hk0 ha hb9 hn hd hwn hwd ln ld la lb hb he
  by_cases cz:a = 0
  · subst cz
    rw [dig_zero] at hc
    go_enter Tryz.func27,Tryz.ntmps27
    go_wp2_with fail
    rw [← hw0]
    refine hc.mono ?_;rintro e w1 ⟨v1,rfl,hO,hk⟩
    obtain ⟨p1,c1,rfl,_⟩:=hO.len
    have hc3:=hc2 w1 hk
    have K0:Hid (Kp w0 w1):=hk
    clear hc hc2 hO hk hw0
    go_wp2_with fail
    refine hc3.mono ?_;rintro e w2 ⟨v2,rfl,hO,hk⟩
    replace K0:Hid (Kp w0 w2):=K0.out.trans hk
    clear hc3 hO hk
    obtain ⟨w3,hw3⟩:∃ w3,w3 = w2.alloc (.cells #[.int .u32 1] 72):=⟨_,rfl⟩
    obtain ⟨g3,hg3⟩:∃ g3,g3 = w2.heap.size:=⟨_,rfl⟩
    have O1:=own1 w2
    rw [← hw3,← hg3] at O1
    have hsz:=K0.out.size
    rw [← hg3] at hsz
    replace K0:Hid (Kp w0 w3):=K0.out.trans (by rw [hw3];exact (Kp.refl _).alloc _)
    have ON:Hid (Own w3 w0.heap.size (.slice none 0 0) (dig 0)):=by rw [dig_zero];exact Own.nil _ _
    have OD:Hid (Own w3 w0.heap.size (.slice (some ⟨g3,0,none⟩) 1 1) (dig 1)):=by
      rw [dig_one]
      exact O1.mono hsz
    have HFR:Hid (FracOf 0 b exp 0 1):=⟨by decide,by simp,fun _ _ _ h=>absurd rfl h,by rw [blen_zero];omega,by have:blen 1 = 1:=blen_uniq 1 0 (by decide) (by decide);omega⟩
    have HW3:Hid (w2.alloc (.cells #[.int .u32 1] 72) = w3∧w2.heap.size = g3):=⟨hw3.symm,hg3.symm⟩
    clear O1 hsz hw3 hg3
    have hlt:w.heap.size < w0.heap.size:=by rw [Hw0.out];simp
    have k0:=kkeep K0.out (b:=w.heap.size) (o:=0) (v:=.bool false) (by rw [Hw0.out];simp [go_sem])
    have z0:w3.frozen? ⟨w.heap.size,0,none⟩ = false:=by rw [Below.frozen K0.out hlt,Hw0.out];simp [go_sem]
    have k1:=kkeep K0.out (b:=w.heap.size) (o:=1) (v:=.slice none 0 0) (by rw [Hw0.out];simp [go_sem])
    have z1:w3.frozen? ⟨w.heap.size,1,none⟩ = false:=by rw [Below.frozen K0.out hlt,Hw0.out];simp [go_sem]
    have k2:=kkeep K0.out (b:=w.heap.size) (o:=2) (v:=.slice none 0 0) (by rw [Hw0.out];simp [go_sem])
    have z2:w3.frozen? ⟨w.heap.size,2,none⟩ = false:=by rw [Below.frozen K0.out hlt,Hw0.out];simp [go_sem]
    have hk9:Kp w w0:=by rw [Hw0.out];exact (Kp.refl w).alloc _
    have hk0:Kp w w3:=hk9.trans K0.out
    have HZ:Hid (Own (((w3.setCell ⟨w.heap.size,0,none⟩ (.bool false)).setCell ⟨w.heap.size,1,none⟩ (.slice none 0 0)).setCell ⟨w.heap.size,2,none⟩ (.slice (some ⟨g3,0,none⟩) 1 1)) w.heap.size (.slice none 0 0) (dig (0))∧Own (((w3.setCell ⟨w.heap.size,0,none⟩ (.bool false)).setCell ⟨w.heap.size,1,none⟩ (.slice none 0 0)).setCell ⟨w.heap.size,2,none⟩ (.slice (some ⟨g3,0,none⟩) 1 1)) w.heap.size (.slice (some ⟨g3,0,none⟩) 1 1) (dig (1))∧Kp w (((w3.setCell ⟨w.heap.size,0,none⟩ (.bool false)).setCell ⟨w.heap.size,1,none⟩ (.slice none 0 0)).setCell ⟨w.heap.size,2,none⟩ (.slice (some ⟨g3,0,none⟩) 1 1))):=⟨((((ON.out.setOther hlt (.bool false)).setOther hlt (.slice none 0 0)).setOther hlt (.slice (some ⟨g3,0,none⟩) 1 1))).mono (Nat.le_of_lt hlt),((((OD.out.setOther hlt (.bool false)).setOther hlt (.slice none 0 0)).setOther hlt (.slice (some ⟨g3,0,none⟩) 1 1))).mono (Nat.le_of_lt hlt),(((hk0.setCell (Nat.le_refl _) (.bool false)).setCell (Nat.le_refl _) (.slice none 0 0)).setCell (Nat.le_refl _) (.slice (some ⟨g3,0,none⟩) 1 1))⟩
    clear hk0 hlt hk9
    obtain ⟨q1,q2⟩:=HW3.out
    subst q1
    subst q2
    clear HW3
    go_wp2
    exact bodyPost_ret (v:=.agg #[.bool false,.slice none 0 0,.slice (some ⟨w2.heap.size,0,none⟩) 1 1]) (by simp [results,Tryz.results27,go_sem] <;> simp [go_sem, *]) rfl ⟨_,_,0,1,false,rfl,HZ.out.1,HZ.out.2.1,⟨HFR.out,fun h=>absurd rfl h⟩,HZ.out.2.2⟩
  · have HA0:Hid (a≠0):=cz
    obtain ⟨a1,ho1,ea,da,hka⟩:=ctz_odd a cz
    obtain ⟨b1,ho2,eb,db,hkb⟩:=ctz_odd b HLA.out.2.2.1
    obtain ⟨ka,hka9⟩:∃ ka,ka = ctz a:=⟨_,rfl⟩
    obtain ⟨kb,hkb9⟩:∃ kb,kb = ctz b:=⟨_,rfl⟩
    rw [← hka9] at ea da hka
    rw [← hkb9] at eb db hkb
    obtain ⟨e1,he1⟩:∃ e1:Int,e1 = exp + ka:=⟨_,rfl⟩
    obtain ⟨ex,hex⟩:∃ ex:Int,ex = e1 - kb:=⟨_,rfl⟩
    obtain ⟨x,hx⟩:∃ x,x = ex.toNat:=⟨_,rfl⟩
    obtain ⟨y,hy⟩:∃ y,y = (-ex).toNat:=⟨_,rfl⟩
    have hfr:=frac_of a b a1 b1 ka kb x y exp ex (by omega) (by omega) ea eb hka hkb (by rw [hex,he1]) hx hy
    have HFR:Hid (FracOf a b exp (a1 * 2 ^ x) (b1 * 2 ^ y)):=hfr
    have hla:=HLA.out
    have ba1:blen a1≤blen a:=by rw [ea,blen_mul _ _ (by omega)];omega
    have bb1:blen b1≤blen b:=by rw [eb,blen_mul _ _ (by omega)];omega
    have HB1:Hid (blen a1≤16777216∧blen b1≤16777216∧x≤16777216∧y≤16777216):=⟨by omega,by omega,by omega,by omega⟩
    have g1:wrap64 (exp + (ka:Int)) = e1:=by rw [← he1];exact w64x _ (by omega) (by omega)
    have g2:wrap64 (e1 - (kb:Int)) = ex:=by rw [← hex];exact w64x _ (by omega) (by omega)
    have HX:Hid (x = ex.toNat∧y = (-ex).toNat):=⟨hx,hy⟩
    have HD:Hid (a / 2 ^ ka = a1∧b / 2 ^ kb = b1∧ka = ctz a∧kb = ctz b∧ka≤1048576∧kb≤1048576):=⟨da,db,hka9,hkb9,by omega,by omega⟩
    have hlz:=dig_len_zero a
    obtain ⟨M,hM⟩:∃ M,M = (dig a).length:=⟨_,rfl⟩
    rw [← hM] at hlz
    have t0:¬ ((M:Int) = 0):=by have:=mt hlz.1 cz;omega
    have HM:Hid (M = (dig a).length):=hM
    clear hfr hla ba1 bb1 ho1 ho2 ea da hka eb db hkb hka9 hkb9 he1 hex hx hy hlz hM cz
    go_enter Tryz.func27,Tryz.ntmps27
    go_wp2_with fail
    rw [← hw0]
    refine hc.mono ?_;rintro e w1 ⟨v1,rfl,hO,hk⟩
    obtain ⟨p1,c1,rfl,_⟩:=hO.len
    have OA:Hid (Own w1 w0.heap.size (.slice p1 (dig a).length c1) (dig a)):=hO
    rw [← HM.out] at OA ⊢
    have hc3:=hc2 w1 hk
    have K0:Hid (Kp w0 w1):=hk
    clear hc hc2 hO hk hw0
    go_wp2_with fail
    refine hc3.mono ?_;rintro e w2 ⟨v2,rfl,hO,hk⟩
    have OB:Hid (Own w2 w0.heap.size v2 (dig b)):=hO.mono K0.out.size
    replace OA:Hid (Own w2 w0.heap.size (.slice p1 M c1) (dig a)):=OA.out.kp hk
    replace K0:Hid (Kp w0 w2):=K0.out.trans hk
    clear hc3 hO hk
    have hc:=zerosR (.slice p1 M c1) a w2 OA.out.ls (by have:=HLA.out;omega)
    rw [← HD.out.2.2.1] at hc
    go_wp2_with fail
    refine hc.mono ?_;rintro e w' ⟨rfl,hw'⟩;obtain rfl:=hw'.symm;clear hc hw'
    have hc:=rightO (.slice p1 M c1) a ka w2 OA.out.ls (by have:=HLA.out;omega) (by have:=HD.out;omega)
    rw [HD.out.1] at hc
    go_wp2_with fail
    refine hc.mono ?_;rintro e w3 ⟨v3,bb,rfl,hO,hk⟩
    replace OA:Hid (Own w3 w0.heap.size v3 (dig a1)):=hO.mono K0.out.size
    replace OB:Hid (Own w3 w0.heap.size v2 (dig b)):=OB.out.kp hk
    replace K0:Hid (Kp w0 w3):=K0.out.trans hk
    clear hc hO hk
    have hc:=zerosR v2 b w3 OB.out.ls (by have:=HLA.out;omega)
    rw [← HD.out.2.2.2.1] at hc
    go_wp2_with fail
    refine hc.mono ?_;rintro e w' ⟨rfl,hw'⟩;obtain rfl:=hw'.symm;clear hc hw'
    have hc:=rightO v2 b kb w3 OB.out.ls (by have:=HLA.out;omega) (by have:=HD.out;omega)
    rw [HD.out.2.1] at hc
    go_wp2_with fail
    refine hc.mono ?_;rintro e w4 ⟨v4,bb2,rfl,hO,hk⟩
    replace OB:Hid (Own w4 w0.heap.size v4 (dig b1)):=hO.mono K0.out.size
    replace OA:Hid (Own w4 w0.heap.size v3 (dig a1)):=OA.out.kp hk
    replace K0:Hid (Kp w0 w4):=K0.out.trans hk
    clear hc hO hk
    by_cases cx:0 < ex
    · have hx9:ex = (x:Int):=by have:=HX.out;omega
      have hc:=leftO v3 a1 x w4 OA.out.ls HB1.out.1 HB1.out.2.2.1
      rw [← hx9] at hc
      have t1:0 < ex:=cx
      have t2:¬ ex < 0:=by omega
      have HY0:Hid (y = 0):=by have:=HX.out;show _ = _;omega
      clear hx9 cx
      go_wp2_with fail
      try rw [g2]
      refine hc.mono ?_;rintro e w5 ⟨v5,rfl,hO,hk⟩
      have ON:Hid (Own w5 w0.heap.size v5 (dig (a1 * 2 ^ x))):=hO.mono K0.out.size
      have OD:Hid (Own w5 w0.heap.size v4 (dig (b1 * 2 ^ y))):=by rw [HY0.out,Nat.pow_zero,Nat.mul_one];exact OB.out.kp hk
      replace K0:Hid (Kp w0 w5):=K0.out.trans hk
      clear hc hO hk OA OB
      obtain ⟨pN,cN,hvN,_⟩:=ON.out.len
      obtain ⟨NN,hNN⟩:∃ NN,NN = (dig (a1 * 2 ^ x)).length:=⟨_,rfl⟩
      rw [← hNN] at hvN
      subst hvN
      clear hNN
      obtain ⟨pD,cD,hvD,_⟩:=OD.out.len
      obtain ⟨ND,hND⟩:∃ ND,ND = (dig (b1 * 2 ^ y)).length:=⟨_,rfl⟩
      rw [← hND] at hvD
      subst hvD
      clear hND
      have hlt:w.heap.size < w0.heap.size:=by rw [Hw0.out];simp
      have k0:=kkeep K0.out (b:=w.heap.size) (o:=0) (v:=.bool false) (by rw [Hw0.out];simp [go_sem])
      have z0:w5.frozen? ⟨w.heap.size,0,none⟩ = false:=by rw [Below.frozen K0.out hlt,Hw0.out];simp [go_sem]
      have k1:=kkeep K0.out (b:=w.heap.size) (o:=1) (v:=.slice none 0 0) (by rw [Hw0.out];simp [go_sem])
      have z1:w5.frozen? ⟨w.heap.size,1,none⟩ = false:=by rw [Below.frozen K0.out hlt,Hw0.out];simp [go_sem]
      have k2:=kkeep K0.out (b:=w.heap.size) (o:=2) (v:=.slice none 0 0) (by rw [Hw0.out];simp [go_sem])
      have z2:w5.frozen? ⟨w.heap.size,2,none⟩ = false:=by rw [Below.frozen K0.out hlt,Hw0.out];simp [go_sem]
      have hk9:Kp w w0:=by rw [Hw0.out];exact (Kp.refl w).alloc _
      have hk0:Kp w w5:=hk9.trans K0.out
      have HZ:Hid (Own (((w5.setCell ⟨w.heap.size,0,none⟩ (.bool neg)).setCell ⟨w.heap.size,1,none⟩ (.slice pN NN cN)).setCell ⟨w.heap.size,2,none⟩ (.slice pD ND cD)) w.heap.size (.slice pN NN cN) (dig (a1 * 2 ^ x))∧Own (((w5.setCell ⟨w.heap.size,0,none⟩ (.bool neg)).setCell ⟨w.heap.size,1,none⟩ (.slice pN NN cN)).setCell ⟨w.heap.size,2,none⟩ (.slice pD ND cD)) w.heap.size (.slice pD ND cD) (dig (b1 * 2 ^ y))∧Kp w (((w5.setCell ⟨w.heap.size,0,none⟩ (.bool neg)).setCell ⟨w.heap.size,1,none⟩ (.slice pN NN cN)).setCell ⟨w.heap.size,2,none⟩ (.slice pD ND cD))):=⟨((((ON.out.setOther hlt (.bool neg)).setOther hlt (.slice pN NN cN)).setOther hlt (.slice pD ND cD))).mono (Nat.le_of_lt hlt),((((OD.out.setOther hlt (.bool neg)).setOther hlt (.slice pN NN cN)).setOther hlt (.slice pD ND cD))).mono (Nat.le_of_lt hlt),(((hk0.setCell (Nat.le_refl _) (.bool neg)).setCell (Nat.le_refl _) (.slice pN NN cN)).setCell (Nat.le_refl _) (.slice pD ND cD))⟩
      clear hk0 hlt hk9
      go_wp2
      exact bodyPost_ret (v:=.agg #[.bool neg,.slice pN NN cN,.slice pD ND cD]) (by simp [results,Tryz.results27,go_sem] <;> simp [go_sem, *]) rfl ⟨_,_,a1 * 2 ^ x,b1 * 2 ^ y,neg,rfl,HZ.out.1,HZ.out.2.1,⟨HFR.out,fun _=>rfl⟩,HZ.out.2.2⟩
    · by_cases cx2:ex < 0
      · have hx9:wrap64 (-ex) = (y:Int):=by rw [show -ex = (y:Int) from by have:=HX.out;omega];exact w64x _ (by omega) (by have:=HB1.out;omega)
        have hc:=leftO v4 b1 y w4 OB.out.ls HB1.out.2.1 HB1.out.2.2.2
        have t1:¬ 0 < ex:=by omega
        have t2:ex < 0:=cx2
        have HY0:Hid (x = 0):=by have:=HX.out;show _ = _;omega
        clear cx cx2
        go_wp2_with fail
        try rw [g2]
        try rw [hx9]
        refine hc.mono ?_;rintro e w5 ⟨v5,rfl,hO,hk⟩
        have OD:Hid (Own w5 w0.heap.size v5 (dig (b1 * 2 ^ y))):=hO.mono K0.out.size
        have ON:Hid (Own w5 w0.heap.size v3 (dig (a1 * 2 ^ x))):=by rw [HY0.out,Nat.pow_zero,Nat.mul_one];exact OA.out.kp hk
        replace K0:Hid (Kp w0 w5):=K0.out.trans hk
        clear hc hO hk OA OB
        obtain ⟨pN,cN,hvN,_⟩:=ON.out.len
        obtain ⟨NN,hNN⟩:∃ NN,NN = (dig (a1 * 2 ^ x)).length:=⟨_,rfl⟩
        rw [← hNN] at hvN
        subst hvN
        clear hNN
        obtain ⟨pD,cD,hvD,_⟩:=OD.out.len
        obtain ⟨ND,hND⟩:∃ ND,ND = (dig (b1 * 2 ^ y)).length:=⟨_,rfl⟩
        rw [← hND] at hvD
        subst hvD
        clear hND
        have hlt:w.heap.size < w0.heap.size:=by rw [Hw0.out];simp
        have k0:=kkeep K0.out (b:=w.heap.size) (o:=0) (v:=.bool false) (by rw [Hw0.out];simp [go_sem])
        have z0:w5.frozen? ⟨w.heap.size,0,none⟩ = false:=by rw [Below.frozen K0.out hlt,Hw0.out];simp [go_sem]
        have k1:=kkeep K0.out (b:=w.heap.size) (o:=1) (v:=.slice none 0 0) (by rw [Hw0.out];simp [go_sem])
        have z1:w5.frozen? ⟨w.heap.size,1,none⟩ = false:=by rw [Below.frozen K0.out hlt,Hw0.out];simp [go_sem]
        have k2:=kkeep K0.out (b:=w.heap.size) (o:=2) (v:=.slice none 0 0) (by rw [Hw0.out];simp [go_sem])
        have z2:w5.frozen? ⟨w.heap.size,2,none⟩ = false:=by rw [Below.frozen K0.out hlt,Hw0.out];simp [go_sem]
        have hk9:Kp w w0:=by rw [Hw0.out];exact (Kp.refl w).alloc _
        have hk0:Kp w w5:=hk9.trans K0.out
        have HZ:Hid (Own (((w5.setCell ⟨w.heap.size,0,none⟩ (.bool neg)).setCell ⟨w.heap.size,1,none⟩ (.slice pN NN cN)).setCell ⟨w.heap.size,2,none⟩ (.slice pD ND cD)) w.heap.size (.slice pN NN cN) (dig (a1 * 2 ^ x))∧Own (((w5.setCell ⟨w.heap.size,0,none⟩ (.bool neg)).setCell ⟨w.heap.size,1,none⟩ (.slice pN NN cN)).setCell ⟨w.heap.size,2,none⟩ (.slice pD ND cD)) w.heap.size (.slice pD ND cD) (dig (b1 * 2 ^ y))∧Kp w (((w5.setCell ⟨w.heap.size,0,none⟩ (.bool neg)).setCell ⟨w.heap.size,1,none⟩ (.slice pN NN cN)).setCell ⟨w.heap.size,2,none⟩ (.slice pD ND cD))):=⟨((((ON.out.setOther hlt (.bool neg)).setOther hlt (.slice pN NN cN)).setOther hlt (.slice pD ND cD))).mono (Nat.le_of_lt hlt),((((OD.out.setOther hlt (.bool neg)).setOther hlt (.slice pN NN cN)).setOther hlt (.slice pD ND cD))).mono (Nat.le_of_lt hlt),(((hk0.setCell (Nat.le_refl _) (.bool neg)).setCell (Nat.le_refl _) (.slice pN NN cN)).setCell (Nat.le_refl _) (.slice pD ND cD))⟩
        clear hk0 hlt hk9
        go_wp2
        exact bodyPost_ret (v:=.agg #[.bool neg,.slice pN NN cN,.slice pD ND cD]) (by simp [results,Tryz.results27,go_sem] <;> simp [go_sem, *]) rfl ⟨_,_,a1 * 2 ^ x,b1 * 2 ^ y,neg,rfl,HZ.out.1,HZ.out.2.1,⟨HFR.out,fun _=>rfl⟩,HZ.out.2.2⟩
      · have t1:¬ 0 < ex:=by omega
        have t2:¬ ex < 0:=cx2
        have HY0:Hid (x = 0∧y = 0):=by have:=HX.out;exact ⟨by omega,by omega⟩
        clear cx cx2
        have ON:Hid (Own w4 w0.heap.size v3 (dig (a1 * 2 ^ x))):=by rw [HY0.out.1,Nat.pow_zero,Nat.mul_one];exact OA.out
        have OD:Hid (Own w4 w0.heap.size v4 (dig (b1 * 2 ^ y))):=by rw [HY0.out.2,Nat.pow_zero,Nat.mul_one];exact OB.out
        clear OA OB
        obtain ⟨pN,cN,hvN,_⟩:=ON.out.len
        obtain ⟨NN,hNN⟩:∃ NN,NN = (dig (a1 * 2 ^ x)).length:=⟨_,rfl⟩
        rw [← hNN] at hvN
        subst hvN
        clear hNN
        obtain ⟨pD,cD,hvD,_⟩:=OD.out.len
        obtain ⟨ND,hND⟩:∃ ND,ND = (dig (b1 * 2 ^ y)).length:=⟨_,rfl⟩
        rw [← hND] at hvD
        subst hvD
        clear hND
        have hlt:w.heap.size < w0.heap.size:=by rw [Hw0.out];simp
        have k0:=kkeep K0.out (b:=w.heap.size) (o:=0) (v:=.bool false) (by rw [Hw0.out];simp [go_sem])
        have z0:w4.frozen? ⟨w.heap.size,0,none⟩ = false:=by rw [Below.frozen K0.out hlt,Hw0.out];simp [go_sem]
        have k1:=kkeep K0.out (b:=w.heap.size) (o:=1) (v:=.slice none 0 0) (by rw [Hw0.out];simp [go_sem])
        have z1:w4.frozen? ⟨w.heap.size,1,none⟩ = false:=by rw [Below.frozen K0.out hlt,Hw0.out];simp [go_sem]
        have k2:=kkeep K0.out (b:=w.heap.size) (o:=2) (v:=.slice none 0 0) (by rw [Hw0.out];simp [go_sem])
        have z2:w4.frozen? ⟨w.heap.size,2,none⟩ = false:=by rw [Below.frozen K0.out hlt,Hw0.out];simp [go_sem]
        have hk9:Kp w w0:=by rw [Hw0.out];exact (Kp.refl w).alloc _
        have hk0:Kp w w4:=hk9.trans K0.out
        have HZ:Hid (Own (((w4.setCell ⟨w.heap.size,0,none⟩ (.bool neg)).setCell ⟨w.heap.size,1,none⟩ (.slice pN NN cN)).setCell ⟨w.heap.size,2,none⟩ (.slice pD ND cD)) w.heap.size (.slice pN NN cN) (dig (a1 * 2 ^ x))∧Own (((w4.setCell ⟨w.heap.size,0,none⟩ (.bool neg)).setCell ⟨w.heap.size,1,none⟩ (.slice pN NN cN)).setCell ⟨w.heap.size,2,none⟩ (.slice pD ND cD)) w.heap.size (.slice pD ND cD) (dig (b1 * 2 ^ y))∧Kp w (((w4.setCell ⟨w.heap.size,0,none⟩ (.bool neg)).setCell ⟨w.heap.size,1,none⟩ (.slice pN NN cN)).setCell ⟨w.heap.size,2,none⟩ (.slice pD ND cD))):=⟨((((ON.out.setOther hlt (.bool neg)).setOther hlt (.slice pN NN cN)).setOther hlt (.slice pD ND cD))).mono (Nat.le_of_lt hlt),((((OD.out.setOther hlt (.bool neg)).setOther hlt (.slice pN NN cN)).setOther hlt (.slice pD ND cD))).mono (Nat.le_of_lt hlt),(((hk0.setCell (Nat.le_refl _) (.bool neg)).setCell (Nat.le_refl _) (.slice pN NN cN)).setCell (Nat.le_refl _) (.slice pD ND cD))⟩
        clear hk0 hlt hk9
        go_wp2
        exact bodyPost_ret (v:=.agg #[.bool neg,.slice pN NN cN,.slice pD ND cD]) (by simp [results,Tryz.results27,go_sem] <;> simp [go_sem, *]) rfl ⟨_,_,a1 * 2 ^ x,b1 * 2 ^ y,neg,rfl,HZ.out.1,HZ.out.2.1,⟨HFR.out,fun _=>rfl⟩,HZ.out.2.2⟩
theorem sgep0 (m:Nat) (h:m / 4503599627370496 = 0):Fb.sgD m = m % 4503599627370496∧Fb.epD m = -1074:=by
  have h1:m < 4503599627370496:=by omega
  unfold Fb.sgD Fb.sgG Fb.epD Fb.epG
  rw [if_pos h1,if_pos h1,Nat.mod_eq_of_lt h1]
  exact ⟨rfl,rfl⟩
theorem sgep1 (m:Nat) (hm:m < 9218868437227405312) (h:m / 4503599627370496≠0):Fb.sgD m = m % 4503599627370496 + 4503599627370496∧Fb.epD m = ((m / 4503599627370496:Nat):Int) - 1 - 1074:=by
  have h1:¬ m < 4503599627370496:=by omega
  unfold Fb.sgD Fb.sgG Fb.epD Fb.epG
  rw [if_neg h1,if_pos hm,if_neg h1,if_pos hm]
  generalize m / 4503599627370496 = q
  exact ⟨by omega,by omega⟩
theorem small64 (f:Nat) (x:Int) (h:f < 18446744073709551616) (hx:x.natAbs≤4096):f < 18446744073709551616∧blen f≤64∧x.natAbs≤1048576 :=
  ⟨h,blen_lt f 64 (by rw [show (2:Nat) ^ 64 = 18446744073709551616 from by decide];exact h),by omega⟩
theorem fb_nums (eN fN f:Nat) (e1 x:Int) (b1:eN < 2047) (b2:fN < 4503599627370496) (h0:eN≠0) (hf:f = fN + 4503599627370496) (he1:e1 = (eN:Int) - 1) (hx:x = e1 - 1074) :
    0 < (eN:Int)∧IntKind.u64.wrap ((fN:Int) + 4503599627370496) = (f:Int)∧wrap64 ((eN:Int) - 1) = e1∧wrap64 (e1 - 1074) = x∧f < 18446744073709551616∧x.natAbs≤4096:=by
  refine ⟨by omega, ?_, ?_, ?_,by omega,by omega⟩
  · rw [IntKind.wrap_u64];omega
  · rw [← he1];exact w64x _ (by omega) (by omega)
  · rw [← hx];exact w64x _ (by omega) (by omega)
theorem fb_e (eN:Nat) (b1:eN < 2047):IntKind.i64.wrap (eN:Int) = (eN:Int)∧wrap64 (eN:Int) = (eN:Int):=⟨wi64 _ (by omega) (by omega),w64x _ (by omega) (by omega)⟩
theorem fb_bits (n:Bool) (m X Q eN fN:Nat) (hm:m < 9218868437227405312) (hX:X = Fb.wD n m) (hQ:Q = X / 4503599627370496) (he:eN = m / 4503599627370496) (hf:fN = m % 4503599627370496) :
    bits BinOp.and IntKind.u64 (Q:Int) 2047 = (eN:Int)∧bits BinOp.and IntKind.u64 (X:Int) 4503599627370495 = (fN:Int)∧(X:Int) / 9223372036854775808 = (if n = true then 1 else 0)∧eN < 2047∧fN < 4503599627370496∧X < 18446744073709551616:=by
  have hX9:X < 18446744073709551616:=by rw [hX];unfold Fb.wD;split <;> omega
  have e1:Q % 2048 = eN:=by rw [hQ,he,hX];unfold Fb.wD;split <;> omega
  have e2:X % 4503599627370496 = fN:=by rw [hf,hX];unfold Fb.wD;split <;> omega
  refine ⟨?_, ?_, ?_,by omega,by omega,hX9⟩
  · have h:=u64_and_nat Q 2047 (by omega) (by decide)
    rw [show (2047:Nat) = 2 ^ 11 - 1 from by decide,Nat.and_two_pow_sub_one_eq_mod,show (2:Nat) ^ 11 = 2048 from by decide,e1] at h
    exact h
  · have h:=u64_and_nat X 4503599627370495 hX9 (by decide)
    rw [show (4503599627370495:Nat) = 2 ^ 52 - 1 from by decide,Nat.and_two_pow_sub_one_eq_mod,show (2:Nat) ^ 52 = 4503599627370496 from by decide,e2] at h
    exact h
  · rw [hX];unfold Fb.wD;cases n <;> simp <;> omega
theorem fromBits_ (n:Bool) (m:Nat) (hm:m < 9218868437227405312) (w:World) :
    Calls Tryz.prog 88 #[.int .u64 ((Fb.wD n m:Nat):Int)] w fun e w'=>∃ (vn vd:Value) (a b:Nat) (ng:Bool),e = .returned (.agg #[.bool ng,vn,vd])∧Own w' w.heap.size vn (dig a)∧Own w' w.heap.size vd (dig b)∧(FracOf (Fb.sgD m) 1 (Fb.epD m) a b∧(Fb.sgD m≠0→ng = n))∧Kp w w':=by
  obtain ⟨w0,hw0⟩:∃ w0,w0 = w.alloc (.cells #[.bool false,.slice none 0 0,.slice none 0 0] 27):=⟨_,rfl⟩
  have Hw0:Hid (w0 = w.alloc (.cells #[.bool false,.slice none 0 0,.slice none 0 0] 27)):=hw0
  obtain ⟨X,hX⟩:∃ X,X = Fb.wD n m:=⟨_,rfl⟩
  obtain ⟨Q,hQ⟩:∃ Q,Q = X / 4503599627370496:=⟨_,rfl⟩
  obtain ⟨eN,heN⟩:∃ eN,eN = m / 4503599627370496:=⟨_,rfl⟩
  obtain ⟨fN,hfN⟩:∃ fN,fN = m % 4503599627370496:=⟨_,rfl⟩
  obtain ⟨f2,f3,f4,b1,b2,b3⟩:=fb_bits n m X Q eN fN hm hX hQ heN hfN
  have f1:(X:Int) / 4503599627370496 = (Q:Int):=by rw [hQ];exact (Int.natCast_ediv _ _).symm
  obtain ⟨s63,hs63⟩:∃ s63:Int,s63 = if n = true then 1 else 0:=⟨_,rfl⟩
  rw [← hs63] at f4
  have hsn:(s63 == 1) = n:=by rw [hs63];cases n <;> rfl
  have hsn2:decide (s63 = 1) = n:=by rw [hs63];cases n <;> rfl
  rw [← hX]
  obtain ⟨ge,ge2⟩:=fb_e eN b1
  clear hX hQ hs63 b3
  by_cases ce:eN = 0
  · obtain ⟨f,hf⟩:∃ f,f = fN:=⟨_,rfl⟩
    obtain ⟨x,hx⟩:∃ x:Int,x = -1074:=⟨_,rfl⟩
    have hse:=sgep0 m (by rw [← heN];exact ce)
    rw [← hfN,← hf,← hx] at hse
    have HS:Hid (Fb.sgD m = f∧Fb.epD m = x):=hse
    have hbf:f < 18446744073709551616:=by rw [hf];exact Nat.lt_trans b2 (by decide)
    have hbx:x.natAbs≤4096:=by rw [hx];decide
    have HF:Hid (f < 18446744073709551616∧blen f≤64∧x.natAbs≤1048576):=small64 f x hbf hbx
    clear hse hbf hbx
    have HXX:Hid (x = -1074):=hx
    subst ce
    rw [← hf] at f3
    clear b1 b2 heN hfN hf hx hm
    go_enter Tryz.func88,Tryz.ntmps88
    have hc:=rsmall_ f HF.out.1 w0
    go_wp2_with fail
    rw [← hw0]
    refine hc.mono ?_;rintro e w1 ⟨v1,rfl,hO,hk⟩
    have H1:Hid (Ls w1 v1 (dig f)):=hO.ls
    have K0:Hid (Kp w0 w1):=hk
    clear hc hO hk hw0
    obtain ⟨gl,hgl⟩:∃ gl,gl = w1.heap.size:=⟨_,rfl⟩
    obtain ⟨wl,hwl⟩:∃ wl,wl = w1.alloc (.cells #[.int .u32 1] 72):=⟨_,rfl⟩
    have O1:=own1 w1
    rw [← hwl,← hgl] at O1
    have kl:Kp w1 wl:=by rw [hwl];exact (Kp.refl _).alloc _
    replace H1:Hid (Ls wl v1 (dig f)):=H1.out.kp kl
    replace K0:Hid (Kp w0 wl):=K0.out.trans kl
    have hc:=frac_ n v1 (.slice (some ⟨gl,0,none⟩) 1 1) (dig f) [1] x wl H1.out O1.ls (Wd_dig f) (wd1 1 (by decide)) (Nat.le_trans (dlen f 2 HF.out.2.1) (by decide)) (by simp) (by decide) HF.out.2.2
    rw [val_dig,show val [1] = 1 from by decide] at hc
    rw [HXX.out] at hc
    clear O1 kl H1
    go_wp2_with fail
    try rw [hsn]
    rw [← hgl,← hwl]
    refine hc.mono ?_;rintro e w2 ⟨vn,vd,a,b,ng,rfl,hN,hD,hF,hk⟩
    clear hgl hwl hc
    have hsz:=K0.out.size
    replace K0:Hid (Kp w0 w2):=K0.out.trans hk
    have ON:Hid (Own w2 w0.heap.size vn (dig a)):=hN.mono hsz
    have OD:Hid (Own w2 w0.heap.size vd (dig b)):=hD.mono hsz
    clear hN hD hk hsz
    obtain ⟨pN,cN,hvN,_⟩:=ON.out.len
    obtain ⟨NN,hNN⟩:∃ NN,NN = (dig (a)).length:=⟨_,rfl⟩
    rw [← hNN] at hvN
    subst hvN
    clear hNN
    obtain ⟨pD,cD,hvD,_⟩:=OD.out.len
    obtain ⟨ND,hND⟩:∃ ND,ND = (dig (b)).length:=⟨_,rfl⟩
    rw [← hND] at hvD
    subst hvD
    clear hND
    have hlt:w.heap.size < w0.heap.size:=by rw [Hw0.out];simp
    have k0:=kkeep K0.out (b:=w.heap.size) (o:=0) (v:=.bool false) (by rw [Hw0.out];simp [go_sem])
    have z0:w2.frozen? ⟨w.heap.size,0,none⟩ = false:=by rw [Below.frozen K0.out hlt,Hw0.out];simp [go_sem]
    have k1:=kkeep K0.out (b:=w.heap.size) (o:=1) (v:=.slice none 0 0) (by rw [Hw0.out];simp [go_sem])
    have z1:w2.frozen? ⟨w.heap.size,1,none⟩ = false:=by rw [Below.frozen K0.out hlt,Hw0.out];simp [go_sem]
    have k2:=kkeep K0.out (b:=w.heap.size) (o:=2) (v:=.slice none 0 0) (by rw [Hw0.out];simp [go_sem])
    have z2:w2.frozen? ⟨w.heap.size,2,none⟩ = false:=by rw [Below.frozen K0.out hlt,Hw0.out];simp [go_sem]
    have hk9:Kp w w0:=by rw [Hw0.out];exact (Kp.refl w).alloc _
    have hk0:Kp w w2:=hk9.trans K0.out
    have HZ:Hid (Own (((w2.setCell ⟨w.heap.size,0,none⟩ (.bool ng)).setCell ⟨w.heap.size,1,none⟩ (.slice pN NN cN)).setCell ⟨w.heap.size,2,none⟩ (.slice pD ND cD)) w.heap.size (.slice pN NN cN) (dig a)∧Own (((w2.setCell ⟨w.heap.size,0,none⟩ (.bool ng)).setCell ⟨w.heap.size,1,none⟩ (.slice pN NN cN)).setCell ⟨w.heap.size,2,none⟩ (.slice pD ND cD)) w.heap.size (.slice pD ND cD) (dig b)∧Kp w (((w2.setCell ⟨w.heap.size,0,none⟩ (.bool ng)).setCell ⟨w.heap.size,1,none⟩ (.slice pN NN cN)).setCell ⟨w.heap.size,2,none⟩ (.slice pD ND cD))):=⟨((((ON.out.setOther hlt (.bool ng)).setOther hlt (.slice pN NN cN)).setOther hlt (.slice pD ND cD))).mono (Nat.le_of_lt hlt),((((OD.out.setOther hlt (.bool ng)).setOther hlt (.slice pN NN cN)).setOther hlt (.slice pD ND cD))).mono (Nat.le_of_lt hlt),(((hk0.setCell (Nat.le_refl _) (.bool ng)).setCell (Nat.le_refl _) (.slice pN NN cN)).setCell (Nat.le_refl _) (.slice pD ND cD))⟩
    have HFF:Hid (FracOf (Fb.sgD m) 1 (Fb.epD m) a b∧(Fb.sgD m≠0→ng = n)):=by rw [HS.out.1,HS.out.2,HXX.out];exact hF
    clear hk0 hlt hk9 hF
    go_wp2
    exact bodyPost_ret (v:=.agg #[.bool ng,.slice pN NN cN,.slice pD ND cD]) (by simp [results,Tryz.results88,go_sem] <;> simp [go_sem, *]) rfl ⟨_,_,a,b,ng,rfl,HZ.out.1,HZ.out.2.1,HFF.out,HZ.out.2.2⟩
  · obtain ⟨f,hf⟩:∃ f,f = fN + 4503599627370496:=⟨_,rfl⟩
    obtain ⟨e1,he1⟩:∃ e1:Int,e1 = (eN:Int) - 1:=⟨_,rfl⟩
    obtain ⟨x,hx⟩:∃ x:Int,x = e1 - 1074:=⟨_,rfl⟩
    have hse:=sgep1 m hm (by rw [← heN];exact ce)
    rw [← hfN,← hf,← heN,← he1,← hx] at hse
    have HS:Hid (Fb.sgD m = f∧Fb.epD m = x):=hse
    obtain ⟨t1,g3,g4',g5',hbf,hbx⟩:=fb_nums eN fN f e1 x b1 b2 ce hf he1 hx
    have b9:eN≤2047:=Nat.le_of_lt b1
    have HXX:Hid ((eN:Int) - 1 - 1074 = x):=by show _ = _;clear f1 f2 f3 f4;omega
    clear g4' g5' ge ge2
    have HF:Hid (f < 18446744073709551616∧blen f≤64∧x.natAbs≤1048576):=small64 f x hbf hbx
    clear hse hbf hbx
    clear b1 b2 heN hfN hf hx hm ce he1
    go_enter Tryz.func88,Tryz.ntmps88
    have hc:=rsmall_ f HF.out.1 w0
    go_wp2_with fail
    rw [← hw0]
    refine hc.mono ?_;rintro e w1 ⟨v1,rfl,hO,hk⟩
    have H1:Hid (Ls w1 v1 (dig f)):=hO.ls
    have K0:Hid (Kp w0 w1):=hk
    clear hc hO hk hw0
    obtain ⟨gl,hgl⟩:∃ gl,gl = w1.heap.size:=⟨_,rfl⟩
    obtain ⟨wl,hwl⟩:∃ wl,wl = w1.alloc (.cells #[.int .u32 1] 72):=⟨_,rfl⟩
    have O1:=own1 w1
    rw [← hwl,← hgl] at O1
    have kl:Kp w1 wl:=by rw [hwl];exact (Kp.refl _).alloc _
    replace H1:Hid (Ls wl v1 (dig f)):=H1.out.kp kl
    replace K0:Hid (Kp w0 wl):=K0.out.trans kl
    have hc:=frac_ n v1 (.slice (some ⟨gl,0,none⟩) 1 1) (dig f) [1] x wl H1.out O1.ls (Wd_dig f) (wd1 1 (by decide)) (Nat.le_trans (dlen f 2 HF.out.2.1) (by decide)) (by simp) (by decide) HF.out.2.2
    rw [val_dig,show val [1] = 1 from by decide] at hc
    skip
    clear O1 kl H1
    go_wp2_with fail
    try rw [hsn]
    rw [HXX.out]
    rw [← hgl,← hwl]
    refine hc.mono ?_;rintro e w2 ⟨vn,vd,a,b,ng,rfl,hN,hD,hF,hk⟩
    clear hgl hwl hc
    have hsz:=K0.out.size
    replace K0:Hid (Kp w0 w2):=K0.out.trans hk
    have ON:Hid (Own w2 w0.heap.size vn (dig a)):=hN.mono hsz
    have OD:Hid (Own w2 w0.heap.size vd (dig b)):=hD.mono hsz
    clear hN hD hk hsz
    obtain ⟨pN,cN,hvN,_⟩:=ON.out.len
    obtain ⟨NN,hNN⟩:∃ NN,NN = (dig (a)).length:=⟨_,rfl⟩
    rw [← hNN] at hvN
    subst hvN
    clear hNN
    obtain ⟨pD,cD,hvD,_⟩:=OD.out.len
    obtain ⟨ND,hND⟩:∃ ND,ND = (dig (b)).length:=⟨_,rfl⟩
    rw [← hND] at hvD
    subst hvD
    clear hND
    have hlt:w.heap.size < w0.heap.size:=by rw [Hw0.out];simp
    have k0:=kkeep K0.out (b:=w.heap.size) (o:=0) (v:=.bool false) (by rw [Hw0.out];simp [go_sem])
    have z0:w2.frozen? ⟨w.heap.size,0,none⟩ = false:=by rw [Below.frozen K0.out hlt,Hw0.out];simp [go_sem]
    have k1:=kkeep K0.out (b:=w.heap.size) (o:=1) (v:=.slice none 0 0) (by rw [Hw0.out];simp [go_sem])
    have z1:w2.frozen? ⟨w.heap.size,1,none⟩ = false:=by rw [Below.frozen K0.out hlt,Hw0.out];simp [go_sem]
    have k2:=kkeep K0.out (b:=w.heap.size) (o:=2) (v:=.slice none 0 0) (by rw [Hw0.out];simp [go_sem])
    have z2:w2.frozen? ⟨w.heap.size,2,none⟩ = false:=by rw [Below.frozen K0.out hlt,Hw0.out];simp [go_sem]
    have hk9:Kp w w0:=by rw [Hw0.out];exact (Kp.refl w).alloc _
    have hk0:Kp w w2:=hk9.trans K0.out
    have HZ:Hid (Own (((w2.setCell ⟨w.heap.size,0,none⟩ (.bool ng)).setCell ⟨w.heap.size,1,none⟩ (.slice pN NN cN)).setCell ⟨w.heap.size,2,none⟩ (.slice pD ND cD)) w.heap.size (.slice pN NN cN) (dig a)∧Own (((w2.setCell ⟨w.heap.size,0,none⟩ (.bool ng)).setCell ⟨w.heap.size,1,none⟩ (.slice pN NN cN)).setCell ⟨w.heap.size,2,none⟩ (.slice pD ND cD)) w.heap.size (.slice pD ND cD) (dig b)∧Kp w (((w2.setCell ⟨w.heap.size,0,none⟩ (.bool ng)).setCell ⟨w.heap.size,1,none⟩ (.slice pN NN cN)).setCell ⟨w.heap.size,2,none⟩ (.slice pD ND cD))):=⟨((((ON.out.setOther hlt (.bool ng)).setOther hlt (.slice pN NN cN)).setOther hlt (.slice pD ND cD))).mono (Nat.le_of_lt hlt),((((OD.out.setOther hlt (.bool ng)).setOther hlt (.slice pN NN cN)).setOther hlt (.slice pD ND cD))).mono (Nat.le_of_lt hlt),(((hk0.setCell (Nat.le_refl _) (.bool ng)).setCell (Nat.le_refl _) (.slice pN NN cN)).setCell (Nat.le_refl _) (.slice pD ND cD))⟩
    have HFF:Hid (FracOf (Fb.sgD m) 1 (Fb.epD m) a b∧(Fb.sgD m≠0→ng = n)):=by rw [HS.out.1,HS.out.2];exact hF
    clear hk0 hlt hk9 hF
    go_wp2
    exact bodyPost_ret (v:=.agg #[.bool ng,.slice pN NN cN,.slice pD ND cD]) (by simp [results,Tryz.results88,go_sem] <;> simp [go_sem, *]) rfl ⟨_,_,a,b,ng,rfl,HZ.out.1,HZ.out.2.1,HFF.out,HZ.out.2.2⟩
end Go.Proofs.YtnileplkkmhdgaaGreatDoor
